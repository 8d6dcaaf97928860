"""[1], [9] Evidence: what it shows, what it does not, and that nothing given or returned is kept."""

import copy
import unittest

from helping import call, told, ways_of
from plain import ways
from tame import tame_program
from turnedparts.alikes import Alike, Unlike, judge, tree
from turnedparts.errors import BadProgram, Handed, PartsError, Ring
from turnedparts.outside import uses
from turnedparts.worlds import World

ONE = 'def f(a, b):\n    v = ?g(a)\n    if b:\n        see v\n    return v\ndef g(a, /):\n    yield a\n    see a.x\n'
TWO = 'def _h(b, v):\n    if b:\n        see v\ndef f(a, b):\n    _h(b, ?g(a))\n    return ?g(a)\ndef g(a, /):\n    for i in (a,):\n        yield i\n    see a.x\n'
NONE = World({}, {}, [], None)


def leaf(*events):
    return ("leaf", tuple(events))


class Alikes(unittest.TestCase):
    def setUp(self):
        self.one, self.two = told(ONE), told(TWO)
        self.found = judge(self.one, self.two)

    def shows(self):
        found = self.found.shows(self.one, self.two)
        self.assertIs(self.found.shows(self.two, self.one), found)
        return found

    def test_what_is_returned(self):
        self.assertIs(self.shows(), True)
        self.assertIsInstance(self.found.trees, dict)
        self.assertEqual(sorted(self.found.trees), uses(self.one, self.two))
        self.assertTrue(self.found.shows(self.one, self.one) and self.found.shows(self.two, self.two))

    def test_a_tree_missing_or_too_many(self):
        kept = dict(self.found.trees)
        for use in kept:
            self.found.trees = {other: kept[other] for other in kept if other != use}
            self.assertIs(self.shows(), False)
        for use in (call(3), ("read", "m", "h"), ("read", "n", "f"), ("call", "m", "f", 0, ()), ("method", "m", "f", 0, (), "g", 0, ())):
            self.found.trees = {**kept, use: leaf(("raise", "wrong", ("none",)))}
            self.assertIs(self.shows(), False)
        self.found.trees = dict(reversed(list(kept.items())))
        self.assertIs(self.shows(), True)
        self.found.trees = {}
        self.assertIs(self.shows(), False)
        # As many as there are, but one of them of another use.
        self.found.trees = {other if other != call(2) else call(3): kept[other] for other in kept}
        self.assertIs(self.shows(), False)

    def test_other_leaves(self):
        use = call(2)
        _, condition, yes, no = self.found.trees[use]
        for first, second in ((no, yes), (yes, yes), (no, no), (leaf(*yes[1], ("see", ("none",))), no), (leaf(*yes[1][:1]), no), (leaf(*reversed(yes[1])), no),
                              (leaf(("see", ("input", "1")), yes[1][1]), no), (leaf(("see", ("op", "h", (("input", "0"),))), yes[1][1]), no), (leaf(), no),
                              (yes, leaf(("raise", "bad", no[1][0][1]))), (yes, leaf(("back", ("number", 1)))), (yes, leaf(("back", ("number", 3)))),
                              (("leaf", list(yes[1])), no)):
            self.found.trees[use] = ("if", condition, first, second)
            self.assertIs(self.shows(), False, (first, second))
        self.found.trees[use] = ("if", condition, yes, no)
        self.assertIs(self.shows(), True)

    def test_other_conditions(self):
        use = call(2)
        _, condition, yes, no = self.found.trees[use]
        for other in (("input", "0"), ("input", "b"), ("op", "g", (("input", "0"),)), ("op", "b", ())):
            self.found.trees[use] = ("if", other, yes, no)
            self.assertIs(self.shows(), False)
            # One more condition does not matter, but twice the same one on a way.
            self.found.trees[use] = ("if", other, ("if", condition, yes, no), ("if", condition, yes, no))
            self.assertIs(self.shows(), True)
            self.found.trees[use] = ("if", condition, ("if", other, yes, yes), no)
            self.assertIs(self.shows(), True)
            self.found.trees[use] = ("if", other, ("if", condition, yes, no), ("if", other, ("if", condition, yes, no), ("if", condition, yes, no)))
            self.assertIs(self.shows(), False)
        self.found.trees[use] = ("if", condition, ("if", condition, yes, yes), no)
        self.assertIs(self.shows(), False)
        self.found.trees[use] = ("if", condition, yes, ("if", condition, no, no))
        self.assertIs(self.shows(), False)
        for other in (yes, no):
            self.found.trees[use] = other
            self.assertIs(self.shows(), False)
        self.found.trees[use] = ("go", ("go", 0), ("if", condition, yes, no), ("if", condition, yes, no))
        self.assertIs(self.shows(), True)
        self.found.trees[use] = ("go", ("go", 0), yes, no)
        self.assertIs(self.shows(), False)

    def test_whether_outside_goes_on(self):
        use = call(1, name="g")
        _, condition, (_, behind, yes, no), never = self.found.trees[use]
        for other in (("go", condition, ("go", behind, no, yes), never), ("go", condition, yes, never), ("go", condition, no, never), never,
                      ("go", condition, never, ("go", behind, yes, no)), ("go", behind, ("go", condition, yes, never), ("go", condition, yes, never)),
                      ("go", ("go", 2), ("go", behind, yes, no), never), ("go", condition, ("go", condition, yes, no), never)):
            self.found.trees[use] = other
            self.assertIs(self.shows(), False, other)
        # Another order is a tree as well.
        self.found.trees[use] = ("go", behind, ("go", condition, yes, never), ("go", condition, no, never))
        self.assertIs(self.shows(), True)

    def test_for_other_programs(self):
        for text in (ONE.replace("?g(a)", "?h(a)"), ONE.replace("see v", "see b"), ONE.replace("see a.x", "see a.y"), ONE.replace("if b", "if v"), ONE.replace("if b", "if ?p(b)"),
                     ONE + "x = none\n", ONE + "def h():\n    pass\n", ONE.replace("def g", "def _g"), ONE.replace("a, b", "a, c").replace("if b", "if c"), ""):
            other = told(text)
            self.assertIs(self.found.shows(self.one, other), False, text)
            self.assertIs(self.found.shows(other, self.one), False, text)
        self.assertIs(self.found.shows(told(ONE + "_x = ?p()\n"), told(TWO + "def _y():\n    pass\n")), True)

    def test_errors(self):
        for one, other in ((self.one, None), (None, self.two), ({}, {}), (self.one, {"m": 3})):
            with self.assertRaises(BadProgram):
                self.found.shows(one, other)
            with self.assertRaises(BadProgram):
                Alike({}).shows(one, other)
        with self.assertRaises(Ring):
            self.found.shows(self.one, told(ONE.replace("see v", "f(a, b)")))
        with self.assertRaises(Handed):
            self.found.shows(told(ONE.replace("see v", "see f")), self.two)
        # A tree that is none for an earlier use, or way, is looked at first.
        self.found.trees[call(0, "ab")] = leaf()
        self.assertIs(self.found.shows(self.one, told(ONE.replace("see v", "f(a, b)"))), False)

    def test_equal(self):
        self.assertEqual(self.found, judge(told(ONE), told(TWO)))
        self.assertEqual(self.found, Alike(self.found.trees))
        self.assertNotEqual(self.found, Alike({}))
        self.assertNotEqual(Alike({}), self.found)
        self.assertNotEqual(self.found, Alike({**self.found.trees, call(2): leaf()}))
        self.assertNotEqual(self.found, self.found.trees)
        self.assertNotEqual(Alike({}), Unlike(call(), NONE, 0))
        self.assertFalse(self.found == None)  # noqa: E711

    def test_deep_trees_are_equal(self):
        items = ", ".join(["none"] * 25)
        one, other = [told(f"def f(a, /):\n    for i in ({items}):\n        for j in ({items}):\n            a = {row}\n    return a\n") for row in ("(a,)", "(a, )")]
        self.assertEqual(judge(one, other), judge(one, other))
        self.assertTrue(judge(one, other).shows(one, other))
        found = judge(one, told(f"def f(a, /):\n    for i in ({items}):\n        for j in ({items}):\n            a = (a,)\n    return (a,)\n"))
        self.assertEqual((bool(found), found.place), (False, 0))
        one, other = [told(f"def f(a, /):\n    for i in ({items}):\n        for j in ({items}):\n            a = (a,)\n    return ?p(a)\n{row}") for row in ("", "x = none\n")]
        self.assertEqual(judge(one, other), judge(one, other))
        one, other = [told(f"def f(a, /):\n    for i in ({items}):\n        for j in ({items}):\n            a = (a,)\n    return ?{row}(a)\n") for row in "pq"]
        self.assertEqual(judge(one, other), judge(one, other))
        self.assertTrue(judge(one, other).shows(one, other))

    def test_nothing_is_kept(self):
        trees = dict(self.found.trees)
        made = Alike(trees)
        trees.clear()
        self.assertEqual(made, self.found)
        made.trees.clear()
        self.assertEqual(len(judge(self.one, self.two).trees), len(self.found.trees))
        self.assertIs(self.shows(), True)
        kept = copy.deepcopy((self.one, self.two))
        judge(self.one, self.two).shows(self.one, self.two)
        for use in uses(self.one):
            tree(self.one, use)
        self.assertEqual((self.one, self.two), kept)
        self.one["m"] = told(ONE.replace("see v", "see b"))["m"]
        self.assertIs(self.shows(), False)


class Unlikes(unittest.TestCase):
    def setUp(self):
        self.one = told("def f(a, b, /):\n    see a\n    if b:\n        return ?p(a)\ndef g(a, /):\n    yield a\n    see none\n")
        self.two = told("def f(a, b, /):\n    see a\n    if b:\n        return ?q(a)\ndef g(a, /):\n    try:\n        yield a\n    finally:\n        see none\n")
        self.found = judge(self.one, self.two)

    def shows(self):
        found = self.found.shows(self.one, self.two)
        self.assertIs(self.found.shows(self.two, self.one), found)
        return found

    def test_what_is_returned(self):
        self.assertIs(self.shows(), True)
        self.assertEqual((self.found.use, self.found.place), (call(2), 1))
        self.assertIsInstance(self.found.world, World)

    def test_other_places(self):
        for place in (0, 2, 3, -1, None, True):
            self.found.place = place
            self.assertIs(self.shows(), False, place)
        self.found.place = 1
        self.assertIs(self.shows(), True)

    def test_other_uses(self):
        for use in (call(1), call(1, "b"), call(1, name="g"), ("read", "m", "f"), ("read", "m", "h"), call(3)):
            self.found.use = use
            self.assertIs(self.shows(), False, use)
        self.found = Unlike(call(1, name="g"), World({}, {}, [], 1), 2)
        self.assertIs(self.shows(), True)

    def test_a_use_that_is_none_of_theirs(self):
        # The making sees unlike things, but there is no method, and so no use by which it would be seen.
        one, two = [told(f"class c:\n    def make(self):\n        see {row}\n") for row in ('"t"', '"u"')]
        self.assertTrue(judge(one, two))
        self.assertIs(Unlike(("method", "m", "c", 0, (), "g", 0, ()), NONE, 0).shows(one, two), False)

    def test_other_worlds(self):
        world = self.found.world
        self.found.world = World(world.inputs, world.table, [], None)
        self.assertIs(self.shows(), False)
        self.found.world = World(world.inputs, {}, world.truths, None)
        self.assertIs(self.shows(), False)
        self.found.world = World({"1": 4}, {("p", (("number", 0),)): 7}, [4], 3)
        self.assertIs(self.shows(), True)
        self.found.world.table[("q", (("number", 0),))] = 7
        self.assertIs(self.shows(), False)
        self.found.world.inputs["0"] = 8
        self.assertIs(self.shows(), False)
        self.found.world.table[("q", (("number", 8),))] = 7
        self.assertIs(self.shows(), True)
        self.found.world.truths.clear()
        self.assertIs(self.shows(), False)
        self.found = Unlike(call(1, name="g"), World({}, {}, [], 1), 2)
        for stop, found in ((0, False), (2, False), (None, False), (1, True)):
            self.found.world.stop = stop
            self.assertIs(self.shows(), found)

    def test_for_other_programs(self):
        self.assertIs(self.found.shows(self.one, self.one), False)
        self.assertIs(self.found.shows(self.two, self.two), False)
        self.assertIs(self.found.shows(self.one, told("def f(a, b, /):\n    see b\n")), False)
        self.assertIs(self.found.shows(self.one, told("def f(a, b, /):\n    see a\n")), True)
        self.assertIs(self.found.shows(told(""), told("x = none\n")), False)

    def test_errors(self):
        for one, other in ((self.one, None), (None, self.two), ({}, {})):
            with self.assertRaises(BadProgram):
                self.found.shows(one, other)
        with self.assertRaises(Ring):
            self.found.shows(self.one, told("def f(a, b, /):\n    f(a, b)\n"))
        with self.assertRaises(Handed):
            self.found.shows(told("def f(a, b, /):\n    see f\n"), told("def f(a, b, /):\n    f(a, b)\n"))

    def test_equal(self):
        self.assertEqual(self.found, judge(self.one, self.two))
        use, world, place = self.found.use, self.found.world, self.found.place
        self.assertEqual(self.found, Unlike(use, world, place))
        for other in (Unlike(call(1), world, place), Unlike(use, NONE, place), Unlike(use, world, 0), Alike({}), None, use):
            self.assertNotEqual(self.found, other)

    def test_nothing_is_kept(self):
        inputs, table, truths = {"1": 4}, {("p", (("number", 0),)): 7}, [4]
        world = World(inputs, table, truths, None)
        made = Unlike(call(2), world, 1)
        for part in (inputs, table, truths, world.inputs, world.table, world.truths):
            part.clear()
        world.stop = 0
        self.assertEqual(made, Unlike(call(2), World({"1": 4}, {("p", (("number", 0),)): 7}, [4], None), 1))
        self.assertIs(made.shows(self.one, self.two), True)
        self.found.world.inputs.clear()
        self.found.world.truths.clear()
        self.assertIs(judge(self.one, self.two).shows(self.one, self.two), True)


class Chances(unittest.TestCase):
    def test_changed_trees(self):
        """One leaf of a tree exchanged with another one is no tree, unless both see the same."""
        many = 0
        for seed in range(40):
            program = tame_program(seed)
            try:
                found = judge(program, program)
            except PartsError:
                continue
            self.assertTrue(found.shows(program, program))
            for use in list(found.trees)[:6]:
                kept = found.trees[use]
                rows = ways(program, use)
                for choices, events in ways_of(kept):
                    self.assertIn((dict((part if part[0] == "go" else ("if", part[1]), answer) for part, answer in choices), events), rows)
                leaves = [row[1] for row in rows]
                if len(set(leaves)) > 1:
                    found.trees[use] = swapped(kept, leaves[0], next(row for row in leaves if row != leaves[0]))
                    self.assertFalse(found.shows(program, program))
                    many += 1
                found.trees[use] = kept
        self.assertGreater(many, 40)


def swapped(tree_of_use, one, other):
    if tree_of_use[0] == "leaf":
        return ("leaf", {one: other, other: one}.get(tree_of_use[1], tree_of_use[1]))
    return (*tree_of_use[:2], swapped(tree_of_use[2], one, other), swapped(tree_of_use[3], one, other))


if __name__ == "__main__":
    unittest.main()
