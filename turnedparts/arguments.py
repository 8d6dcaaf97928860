"""What calls of functions give, and how it is given for other parameters."""

from turnedparts.parts import defaults_of, exprs_within


def given_by_call(told, params):
    """The pairs of a parameter's name and an expression that a call gives, as it reckons them, or None.

    None is for arguments that do not fit.
    """
    places = [row[0] for row in params if row[1] != "only"]
    if len(told[2]) > len(places):
        return None
    found = list(zip(places, told[2])) + list(told[3])
    by_name = {row[0]: True for row in params if row[1] != "front"}
    names = {name: True for name, _ in found}
    if len(names) != len(found) or not all([pair[0] in by_name for pair in told[3]]):
        return None
    if not all([row[0] in names for row in params if row[2] is None]):
        return None
    return found


class Giving:
    """How what a call gives for some parameters is given for those of a plan.

    What is given is known by its number, in the order in which the call reckons it.
    """

    def __init__(self, given, params, plan):
        self.exprs = [told for _, told in given]
        self.numbers = {name: number for number, (name, _) in enumerate(given)}
        self.defaults = {row[0]: row[2] for row in params}
        self.fronts = self.given_by_place([row for row in plan if row[1] == "front"])
        # What is given by name: pairs of a name, and a number, or None for an old default.
        named = {row[0]: row for row in plan if row[1] != "front"}
        rows = [(name, number) for number, (name, _) in enumerate(given) if name in named]
        late = [(name, None) for name in named if name not in self.numbers and self.must_be_given(named[name])]
        self.named = rows + late
        self.ahead = self.done_ahead()

    def must_be_given(self, row):
        """Whether an argument for a parameter of the plan cannot be left out."""
        if row[0] in self.numbers:
            return True
        return row[0] in self.defaults and self.defaults[row[0]] != row[2]

    def given_by_place(self, rows):
        """The front parameters of a plan up to the last one that must be given."""
        while rows and not self.must_be_given(rows[-1]):
            rows = rows[:-1]
        return rows

    def order(self):
        """The numbers of what is given again, in the new order."""
        fronts = [self.numbers[row[0]] for row in self.fronts if row[0] in self.numbers]
        return fronts + [number for _, number in self.named if number is not None]

    def done_ahead(self):
        """The ascending list of the numbers of what must be done ahead of the call."""
        order = self.order()
        many = len(self.exprs)
        found = {number: True for number in range(many) if number not in order and not is_still(self.exprs[number])}
        for at, late in enumerate(order):
            for early in order[at + 1:]:
                if early < late and hang_together(self.exprs[early], self.exprs[late]):
                    found[early] = True
        for late in reversed(range(many)):
            if late in found:
                for early in range(late):
                    if hang_together(self.exprs[early], self.exprs[late]):
                        found[early] = True
        return sorted(found)

    def let_ahead(self):
        """The ascending list of the numbers of what is done ahead by a let."""
        order = self.order()
        return [number for number in self.ahead if number in order]

    def statements(self, names):
        """The statements that do what is done ahead, with the names of the lets by number."""
        return tuple([("let", names[number], self.exprs[number]) if number in names else ("do", self.exprs[number])
                      for number in self.ahead])

    def call(self, called, names):
        """The call for the plan, with the names of what is done ahead by number."""
        fronts = tuple([self.argument_by_place(row, names) for row in self.fronts])
        named = tuple([(name, self.argument(name, number, names)) for name, number in self.named])
        return ("call", called, fronts, named)

    def argument_by_place(self, row, names):
        if row[0] in self.numbers:
            return self.argument(row[0], self.numbers[row[0]], names)
        return self.defaults[row[0]] if row[0] in self.defaults else row[2]

    def argument(self, name, number, names):
        if number is None:
            return self.defaults[name]
        return ("name", names[number]) if number in names else self.exprs[number]


def hang_together(one, other):
    """Whether two things that a call gives must be done in their order."""
    return (has_call(one) and not is_still(other)) or (has_call(other) and not is_still(one))


def is_still(told):
    """Whether nothing is done for an expression that anything could hang on."""
    if told[0] == "lambda":
        return not defaults_of(told[1])
    if told[0] == "tuple":
        return all([is_still(part) for part in told[1]])
    return told[0] in ("text", "none")


def has_call(told):
    """Whether there is a call in an expression, in the block of no lambda."""
    if told[0] == "call":
        return True
    inner = defaults_of(told[1]) if told[0] == "lambda" else exprs_within(told)
    return any([has_call(part) for part in inner])
