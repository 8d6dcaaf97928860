"""What tests of doing share: programs as texts, uses, and events in few words."""

import unittest

from model import Model, Stopped
from turnedparts.errors import Handed, Ring
from turnedparts.outside import seen
from turnedparts.programs import check_program
from turnedparts.reading import read_module
from turnedparts.worlds import World

NONE = ("none",)
WRONG = ("raise", "wrong", NONE)
END = ("end",)
WALK = ("back", ("generator",))


def value(told):
    """A value: a number for a term, a string for a text, a list or tuple for a tuple, None for none."""
    if told is None:
        return NONE
    if isinstance(told, str):
        return ("text", told)
    if isinstance(told, (list, tuple)):
        return ("tuple", tuple(value(part) for part in told))
    return ("number", told)


def see(*told):
    return [("see", value(part)) for part in told]


def back(told=None):
    return [("back", value(told))]


def bad(kind, told=None):
    return [("raise", kind, value(told))]


def given(told):
    return [("yield", value(told))]


def world(inputs=(), table=(), truths=(1,), stop=None):
    """A world in which inputs by place are 1, 2, 3 .., unless told otherwise."""
    places = {str(at): at + 1 for at in range(12)}
    return World({**places, **dict(inputs)}, {(name, tuple(map(value, values))): number
                                              for (name, *values), number in dict(table).items()}, list(truths), stop)


class Doing(unittest.TestCase):
    maxDiff = None

    def program(self, text, modules):
        program = {"m": read_module(text), **{name: read_module(told) for name, told in modules.items()}}
        check_program(program)
        return program

    def seen(self, text, use, where=None, **modules):
        """What is seen of a use; the other way of doing must see the same."""
        program = self.program(text, modules)
        where = where or world()
        try:
            found = seen(program, use, where)
        except Ring as error:
            found = ("ring", error.module, error.number)
        except Handed as error:
            found = ("handed", error.kind)
        try:
            other = Model(program, where).seen(use)
        except Stopped as error:
            other = error.args
        self.assertEqual(found, other, text)
        return found

    def sees(self, events, text, many=0, names=(), where=None, name="f", **modules):
        """See that a call of f has these events."""
        self.assertEqual(self.seen(text, ("call", "m", name, many, names), where, **modules), events, text)

    def is_wrong(self, line, front="", names=(), **modules):
        """See that a line of a def is wrong, and that handlers of wrong and of any take it."""
        rows = [f"def f({', '.join(names)}):"]
        body = [f"    {row}" for row in line.split("\n")]
        many = len(names)
        self.sees([WRONG], front + "\n".join(rows + body) + "\n", many, **modules)
        for kind in ("wrong", "any"):
            safe = ["    try:"] + ["    " + row for row in body] + [f"    except {kind} as e:", "        see (e, \"taken\")"]
            self.sees(see([None, "taken"]) + back(), front + "\n".join(rows + safe) + "\n", many, **modules)
        safe = ["    try:"] + ["    " + row for row in body] + ["    except bad:", "        see \"no\""]
        self.sees([WRONG], front + "\n".join(rows + safe) + "\n", many, **modules)
