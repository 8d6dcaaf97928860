"""[7] Worlds."""

import unittest

from helping import Doing, back, given, world
from turnedparts.errors import BadWorld, PartsError
from turnedparts.worlds import World

ONE, TEXT, NONE = ("number", 1), ("text", "t"), ("none",)
TUPLE = ("tuple", (ONE, TEXT, NONE, ("tuple", ())))


class Worlds(unittest.TestCase):
    def bad(self, inputs=None, table=None, truths=(), stop=None):
        with self.assertRaises(BadWorld):
            World({} if inputs is None else inputs, {} if table is None else table, truths, stop)

    def test_attributes(self):
        told = World({"0": 1, "a": -2, ".0": 3, ".b": 0}, {("f", (ONE, TUPLE)): 4, (".x", (ONE,)): -5}, (3, 1), 2)
        self.assertEqual(told.inputs, {"0": 1, "a": -2, ".0": 3, ".b": 0})
        self.assertEqual(told.table, {("f", (ONE, TUPLE)): 4, (".x", (ONE,)): -5})
        self.assertEqual(told.truths, [3, 1])
        self.assertIsInstance(told.truths, list)
        self.assertEqual(told.stop, 2)
        told = World({}, {}, [], None)
        self.assertEqual((told.inputs, told.table, told.truths, told.stop), ({}, {}, [], None))

    def test_what_is_given_is_copied(self):
        inputs, table, truths = {"0": 1}, {("f", ()): 1}, [1]
        told = World(inputs, table, truths, None)
        inputs["0"] = 2
        table[("f", ())] = 2
        truths.append(2)
        self.assertEqual(told, World({"0": 1}, {("f", ()): 1}, [1], None))
        self.assertEqual((inputs, table, truths), ({"0": 2}, {("f", ()): 2}, [1, 2]))
        told.inputs["1"] = 5
        told.table.clear()
        told.truths.clear()
        self.assertEqual((inputs, table, truths), ({"0": 2}, {("f", ()): 2}, [1, 2]))

    def test_equal(self):
        rows = ({"0": 1}, {("f", (ONE,)): 2}, [1, 2], 3)
        self.assertTrue(World(*rows) == World(*rows))
        self.assertFalse(World(*rows) != World(*rows))
        self.assertTrue(World({"0": 1, "a": 2}, {}, (1, 2), 3) == World({"a": 2, "0": 1}, {}, [1, 2], 3))
        for at, other in enumerate(({"0": 2}, {("f", (ONE,)): 3}, [1], None)):
            changed = list(rows)
            changed[at] = other
            self.assertFalse(World(*rows) == World(*changed))
            self.assertTrue(World(*rows) != World(*changed))
        for thing in (None, rows, 1, "x"):
            self.assertFalse(World(*rows) == thing)

    def test_changed_attributes_count(self):
        one, other = World({}, {}, [], None), World({}, {}, [], None)
        one.truths.append(4)
        self.assertNotEqual(one, other)
        other.truths.append(4)
        self.assertEqual(one, other)

    def test_inputs(self):
        for name in ("0", "11", "a", "_a", "a_b", ".0", ".11", ".a", "abcdefghijkl"):
            self.assertEqual(World({name: 1}, {}, [], None).inputs, {name: 1})
        for inputs in ([], (), None, "a", [("a", 1)], {1: 1}, {None: 1}, {("a",): 1}, {"": 1}, {".": 1}, {"..a": 1}, {"A": 1}, {"if": 1},
                       {"a b": 1}, {"-1": 1}, {"01": 1}, {"abcdefghijklm": 1}, {"a": "1"}, {"a": None}, {"a": True}, {"a": False}, {"a": 1.0},
                       {"a": ONE}, {"a.b": 1}, {"0": 1, "a": None}):
            with self.assertRaises(BadWorld):
                World(inputs, {}, [], None)

    def test_table(self):
        for row in (("f", ()), (".f", (ONE,)), ("f", (NONE, TEXT, TUPLE, ONE)), ("f", (("number", -7),)), ("f", (("text", ""),)),
                    ("f", (("text", "a_b"),)), ("f", (("tuple", ()),))):
            self.assertEqual(World({}, {row: 1}, [], None).table, {row: 1})
        for row in ("f", ("f",), ("f", (), ()), ("F", ()), ("", ()), (".", ()), ("?f", ()), ("in", ()), (1, ()), (None, ()), ("f", ONE), ("f", "a"),
                    ("f", None), ("f", (1,)), ("f", ("a",)), ("f", (None,)), ("f", ((),)), ("f", (("number",),)), ("f", (("number", "1"),)),
                    ("f", (("number", True),)), ("f", (("number", 1, 2),)), ("f", (("text", 1),)), ("f", (("text",),)), ("f", (("text", "A"),)),
                    ("f", (("text", "abcdefghijklm"),)), ("f", (("none", 1),)), ("f", (("tuple",),)), ("f", (("tuple", ONE),)), ("f", (("tuple", None),)),
                    ("f", (("tuple", (("number", None),)),)), ("f", (("tuple", (ONE, ("tuple", ("x",)))),)), ("f", (("input", "0"),)),
                    ("f", (("op", "f", ()),)), ("f", (("generator",),)), ("f", ((None,),))):
            self.bad(table={row: 1})
            self.bad(table={("f", ()): 1, row: 1})
        for number in (None, "1", True, False, 1.0, ONE, (1,)):
            self.bad(table={("f", ()): number})
        for table in ([], (), None, "f", [(("f", ()), 1)]):
            with self.assertRaises(BadWorld):
                World({}, table, [], None)

    def test_truths(self):
        self.assertEqual(World({}, {}, [2, -1, 2], None).truths, [2, -1, 2])
        for truths in (None, {}, {1: 1}, {1}, "1", 1, [True], [False], (None,), ["1"], [1, ONE], [1.0], range(2)):
            self.bad(truths=truths)

    def test_stop(self):
        for stop in (None, 0, 1, 100):
            self.assertEqual(World({}, {}, [], stop).stop, stop)
        for stop in (-1, True, False, "1", 1.0, (), [1]):
            self.bad(stop=stop)

    def test_deep_values(self):
        told = ONE
        for _ in range(300):
            told = ("tuple", (told,))
        World({}, {("f", (told,)): 1}, [], None)
        told = "x"
        for _ in range(300):
            told = ("tuple", (told,))
        self.bad(table={("f", (told,)): 1})

    def test_error(self):
        self.assertEqual(BadWorld.__bases__, (PartsError,))


class InWorlds(Doing):
    def test_inputs_are_as_told(self):
        text = "def f(a, b):\n    return (a, b)\n"
        self.sees(back([4, 0]), text, 2, where=World({"0": 4}, {}, [], None))
        self.sees(back([0, 5]), text, 1, ("b",), where=World({"b": 5, "1": 3}, {}, [], None))
        self.sees(back([0, 0]), text, 2, where=World({}, {}, [], None))

    def test_operations_are_as_the_table_tells(self):
        text = 'def f(a):\n    return (?p(a), ?p(a, a), ?q(a), a.p, ?p("t"), ?p((a, ("t",), none)), ?p(?q(a)), ?p())\n'
        table = {("p", (ONE,)): 10, ("p", (ONE, ONE)): 11, (".p", (ONE,)): 12, ("p", (TEXT,)): 13,
                 ("p", (("tuple", (ONE, ("tuple", (TEXT,)), NONE)),)): 14, ("p", (("number", 0),)): 15}
        self.sees(back([10, 11, 0, 12, 13, 14, 15, 0]), text, 1, where=World({"0": 1}, table, [], None))

    def test_values_that_are_near(self):
        # A tuple is none of its parts, and one of tuples is none of as many parts.
        text = 'def f(a):\n    return (?p(a), ?p((a,)), ?p((a, a)), ?p(((a,), a)), ?p((), a), ?p(((), a)), ?p(""), ?p(none), ?p("none"))\n'
        rows = [(ONE,), (("tuple", (ONE,)),), (("tuple", (ONE, ONE)),), (("tuple", (("tuple", (ONE,)), ONE)),), (("tuple", ()), ONE),
                (("tuple", (("tuple", ()), ONE)),), (("text", ""),), (NONE,), (("text", "none"),)]
        for at, row in enumerate(rows):
            found = [7 if at == place else 0 for place in range(len(rows))]
            self.sees(back(found), text, 1, where=World({"0": 1}, {("p", row): 7}, [], None))

    def test_truths(self):
        text = 'def f(a):\n    return "yes" if a else "no"\n'
        for truths, number, told in (([], 0, "no"), ([0], 0, "yes"), ([0], 1, "no"), ((2, 1), 1, "yes"), ([-1], -1, "yes")):
            self.sees(back(told), text, 1, where=World({"0": number}, {}, truths, None))

    def test_stop(self):
        text = 'def f():\n    for i in ("a", "b", "c"):\n        yield i\n'
        items = [("yield", ("text", told)) for told in "abc"]
        for stop in (None, 0, 1, 2, 3, 4):
            many = 3 if stop is None else min(stop, 3)
            self.sees([("back", ("generator",)), *items[:many], ("end",)], text, where=World({}, {}, [], stop))

    def test_kinds_as_texts(self):
        text = "class c:\n    def enter(self):\n        pass\n    def leave(self, e):\n        see ?p(e)\ndef f():\n    with c():\n        raise a_b\n"
        where = World({}, {("p", (("text", "a_b"),)): 7}, [], None)
        self.sees([("see", ("number", 7)), ("raise", "a_b", NONE)], text, where=where)

    def test_deep_values(self):
        text = "def f(a):\n    for i in (" + "a, " * 150 + "a):\n        a = ((a,),)\n    return ?p(a)\n"
        told = ONE
        for _ in range(302):
            told = ("tuple", (told,))
        self.sees(back(7), text, 1, where=World({"0": 1}, {("p", (told,)): 7}, [], None))


if __name__ == "__main__":
    unittest.main()
