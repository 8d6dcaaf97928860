"""A second way of judging programs, for tests: plain trees by the model, each way begun anew.

It shares no code with the package but the list of the uses.
"""

from model import Model, Stopped
from turnedparts.outside import uses


class Asked(Exception):
    def __init__(self, condition):
        self.condition = condition


class Large(Exception):
    pass


class Inputs:
    def get(self, name, other):
        return ("input", name)


class Table:
    def get(self, row, other):
        return ("op", row[0], tuple(outward(value) for value in row[1]))


class Truths:
    def __init__(self, choices):
        self.choices = choices

    def __contains__(self, term):
        return chosen(self.choices, ("if", term))


class Stop:
    def __init__(self, choices):
        self.choices = choices

    def __gt__(self, many):
        return chosen(self.choices, ("go", many))


class Kept:
    """A world that keeps terms as they are, and asks for what is not chosen."""

    def __init__(self, choices):
        self.inputs = Inputs()
        self.table = Table()
        self.truths = Truths(choices)
        self.stop = Stop(choices)


def chosen(choices, condition):
    if condition not in choices:
        raise Asked(condition)
    return choices[condition]


def outward(value):
    if value[0] == "number":
        return value[1]
    if value[0] == "tuple":
        return ("tuple", tuple(outward(part) for part in value[1]))
    return value


def events(program, use, choices):
    rows = Model(program, Kept(choices)).seen(use)
    return tuple(row if len(row) == 1 else (*row[:-1], outward(row[-1])) for row in rows)


class Plain:
    """The plain tree of a use of programs; ways are told to a function, in order."""

    def __init__(self, programs, use, on_way, limits=(400, 60)):
        self.programs = programs
        self.use = use
        self.on_way = on_way
        self.limits = limits
        self.many = 0
        self.tree = self.place({})

    def place(self, choices):
        rows = []
        for program in self.programs:
            try:
                rows.append(events(program, self.use, choices))
            except Asked as asked:
                return self.branch(choices, asked.condition)
        self.many += 1
        if self.many > self.limits[0]:
            raise Large
        self.on_way(rows, choices)
        return ("leaf", rows[0])

    def branch(self, choices, condition):
        if len(choices) == self.limits[1]:
            raise Large
        told = condition if condition[0] == "go" else condition[1]
        return (condition[0], told, self.place({**choices, condition: True}), self.place({**choices, condition: False}))


class Differ(Exception):
    def __init__(self, place, choices):
        self.place = place
        self.choices = choices


def same(rows, choices):
    one, other = rows
    if one != other:
        raise Differ(next((at for at, (a, b) in enumerate(zip(one, other)) if a != b), min(len(one), len(other))), choices)


def judged(one, other):
    """("alike", trees), ("unlike", use, place, choices), ("ring", ..), ("handed", ..) or ("large",)."""
    trees = {}
    for use in uses(one, other):
        try:
            trees[use] = Plain((one, other), use, same).tree
        except Differ as found:
            return ("unlike", use, found.place, found.choices)
        except Stopped as error:
            return error.args
        except Large:
            return ("large",)
    return ("alike", trees)


def ways(program, use):
    """The pairs of choices and events of a use."""
    found = []
    Plain((program,), use, lambda rows, choices: found.append((choices, rows[0])))
    return found
