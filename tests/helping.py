"""What tests of doing share: programs as texts, uses, and events in few words."""

import unittest

from model import Model, Stopped
from turnedparts.errors import Handed, Ring
from turnedparts.outside import seen
from turnedparts.programs import check_program
from turnedparts.reading import read_module
from turnedparts.worlds import World

NONE = ("none",)
WRONG = ("raise", "wrong", NONE)
END = ("end",)
WALK = ("back", ("generator",))


def value(told):
    """A value: a number for a term, a string for a text, a list or tuple for a tuple, None for none."""
    if told is None:
        return NONE
    if isinstance(told, str):
        return ("text", told)
    if isinstance(told, (list, tuple)):
        return ("tuple", tuple(value(part) for part in told))
    return ("number", told)


def see(*told):
    return [("see", value(part)) for part in told]


def back(told=None):
    return [("back", value(told))]


def bad(kind, told=None):
    return [("raise", kind, value(told))]


def given(told):
    return [("yield", value(told))]


def world(inputs=(), table=(), truths=(1,), stop=None):
    """A world in which inputs by place are 1, 2, 3 .., unless told otherwise."""
    places = {str(at): at + 1 for at in range(12)}
    return World({**places, **dict(inputs)}, {(name, tuple(map(value, values))): number
                                              for (name, *values), number in dict(table).items()}, list(truths), stop)


class Doing(unittest.TestCase):
    maxDiff = None

    def program(self, text, modules):
        program = {"m": read_module(text), **{name: read_module(told) for name, told in modules.items()}}
        check_program(program)
        return program

    def seen(self, text, use, where=None, **modules):
        """What is seen of a use; the other way of doing must see the same."""
        program = self.program(text, modules)
        where = where or world()
        try:
            found = seen(program, use, where)
        except Ring as error:
            found = ("ring", error.module, error.number)
        except Handed as error:
            found = ("handed", error.kind)
        try:
            other = Model(program, where).seen(use)
        except Stopped as error:
            other = error.args
        self.assertEqual(found, other, text)
        return found

    def sees(self, events, text, many=0, names=(), where=None, name="f", **modules):
        """See that a call of f has these events."""
        self.assertEqual(self.seen(text, ("call", "m", name, many, names), where, **modules), events, text)

    def is_wrong(self, line, front="", names=(), **modules):
        """See that a line of a def is wrong, and that handlers of wrong and of any take it."""
        rows = [f"def f({', '.join(names)}):"]
        body = [f"    {row}" for row in line.split("\n")]
        many = len(names)
        self.sees([WRONG], front + "\n".join(rows + body) + "\n", many, **modules)
        for kind in ("wrong", "any"):
            safe = ["    try:"] + ["    " + row for row in body] + [f"    except {kind} as e:", "        see (e, \"taken\")"]
            self.sees(see([None, "taken"]) + back(), front + "\n".join(rows + safe) + "\n", many, **modules)
        safe = ["    try:"] + ["    " + row for row in body] + ["    except bad:", "        see \"no\""]
        self.sees([WRONG], front + "\n".join(rows + safe) + "\n", many, **modules)


def told(text, **modules):
    """A program of texts, the first one of module m."""
    program = {"m": read_module(text), **{name: read_module(row) for name, row in modules.items()}}
    check_program(program)
    return program


def call(many=0, names=(), name="f"):
    return ("call", "m", name, many, tuple(names))


def term(name, *values):
    """The term of an operation; strings among the values are inputs, others are values."""
    return ("op", name, tuple(("input", row) if isinstance(row, str) else row for row in values))


def ways_of(tree):
    """The pairs of choices and events of a tree, choices as a list of pairs of a condition and an answer."""
    if tree[0] == "leaf":
        return [([], tree[1])]
    condition = tree[1] if tree[0] == "go" else ("if", tree[1])
    return [([(condition, answer), *choices], events) for answer, branch in ((True, tree[2]), (False, tree[3]))
            for choices, events in ways_of(branch)]


class Numbers:
    """Numbers for terms: a world in which a way is gone, and events in it."""

    def __init__(self, choices, events):
        self.terms = {}
        self.inputs = {}
        self.table = {}
        truths = [self.number(part[1]) for part, answer in choices if part[0] == "if" and answer]
        for part, _ in choices:
            if part[0] == "if":
                self.number(part[1])
        self.events = [row if len(row) == 1 else (*row[:-1], self.value(row[-1])) for row in events]
        stops = [part[1] for part, answer in choices if part[0] == "go" and not answer]
        self.world = World(self.inputs, self.table, truths, min(stops) if stops else None)

    def number(self, told):
        if told not in self.terms:
            if told[0] == "input":
                self.terms[told] = self.inputs[told[1]] = len(self.terms) + 1
            else:
                values = tuple(self.value(part) for part in told[2])
                self.terms[told] = self.table[(told[1], values)] = len(self.terms) + 1
        return self.terms[told]

    def value(self, told):
        if told[0] in ("input", "op"):
            return ("number", self.number(told))
        if told[0] == "tuple":
            return ("tuple", tuple(map(self.value, told[1])))
        return told
