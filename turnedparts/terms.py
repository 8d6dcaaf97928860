"""Terms that are kept as they are: doing knows each of them by a number."""

from turnedparts.meanings import flat


class Terms:
    """The terms that doing has come to, numbered from 1 on."""

    def __init__(self):
        # What each is made of: ("input", name), or ("op", name, values) with values of doing.
        self.rows = []
        # The same ones as they stand in trees.
        self.shown = []
        self.inputs = {}
        self.operations = {}

    def reading(self, name):
        """The term of an input."""
        if name not in self.inputs:
            self.inputs[name] = self.new_number(("input", name), ("input", name))
        return ("number", self.inputs[name])

    def comes_to(self, name, values):
        """The term of an operation with values."""
        key = flat(name, values)
        if key not in self.operations:
            told = tuple([self.outward(value) for value in values])
            self.operations[key] = self.new_number(("op", name, values), ("op", name, told))
        return ("number", self.operations[key])

    def new_number(self, row, told):
        self.rows.append(row)
        self.shown.append(told)
        return len(self.rows)

    def term(self, number):
        """The term with a number, as it stands in trees."""
        return self.shown[number - 1]

    def outward(self, value):
        """A value of doing, as it stands in trees."""
        if value[0] == "number":
            return self.term(value[1])
        if value[0] != "tuple":
            return value
        made = []
        for part in reversed(parts_of(value)):
            if part[0] == "tuple":
                made.append(("tuple", taken_off(made, len(part[1]))))
            else:
                made.append(self.term(part[1]) if part[0] == "number" else part)
        return made[0]

    def inward(self, told):
        """A value as it stands in trees, as doing knows it."""
        made = []
        for part in reversed(parts_of(told)):
            if part[0] == "tuple":
                made.append(("tuple", taken_off(made, len(part[1]))))
            elif part[0] == "op":
                made.append(self.comes_to(part[1], taken_off(made, len(part[2]))))
            else:
                made.append(self.reading(part[1]) if part[0] == "input" else part)
        return made[0]

    def outward_events(self, events):
        """The tuple of the events of doing, as they stand in trees."""
        return tuple([event if len(event) == 1 else (*event[:-1], self.outward(event[-1])) for event in events])

    def numbers_with(self, name):
        """A dict whose keys are the numbers of the terms that an input is part of."""
        found = {}
        for number, row in enumerate(self.rows, 1):
            if row == ("input", name) or (row[0] == "op" and has_number(row[2], found)):
                found[number] = True
        return found


def has_number(values, numbers):
    """Whether a term with one of some numbers is part of some values of doing."""
    for value in values:
        if value[0] == "number" and value[1] in numbers:
            return True
        if value[0] == "tuple" and any([part[0] == "number" and part[1] in numbers for part in parts_of(value)]):
            return True
    return False


def inner_of(part):
    """The values that a tuple or an operation is made of."""
    if part[0] == "tuple":
        return part[1]
    return part[2] if part[0] == "op" else ()


def parts_of(value):
    """A value and all that it is made of, each ahead of its own parts, however deep it is."""
    found = []
    left = [value]
    while left:
        part = left.pop()
        found.append(part)
        left.extend(list(reversed(inner_of(part))))
    return found


def taken_off(made, many):
    """Take so many values off the end of a list; a tuple of them, the last one first."""
    return tuple([made.pop() for _ in range(many)])
