"""How long it takes: each call looks at a program anew, but not at length."""

import time
import unittest

from turnedparts.alikes import judge, tree
from turnedparts.errors import BadProgram, BadUse, TooLarge
from turnedparts.outside import seen, uses
from turnedparts.reading import read_module
from turnedparts.tellings import hangs_on, is_silent, kinds_raised
from turnedparts.worlds import World

M = """\
use n
mark = "m"
class _base:
    def get(self, k=none):
        return (k, self.x)
    w = mark
    def say(self):
        see self.w
        return self.get()
class _other:
    pass
class kind(_other, _base):
    def make(self, x=mark):
        self.x = ?wrap(x)
    w = "over"
from n take deep as far
"""
N = """\
from m take kind as kin
z = "zed"
def act(a):
    n = a
    def up(v=?neg(n)):
        pass
        n = ?plus(v, v)
        return n
    see up()
    n = up(v=n)
    n = up(v=n)
    return n
def mix(a, b=none):
    t = kin(a)
    return t.say()
def deep(a, /):
    return mix(a)
"""


class Speed(unittest.TestCase):
    def setUp(self):
        self.program = {"m": read_module(M), "n": read_module(N)}

    def test_seen_and_tree(self):
        rows = uses(self.program)
        self.assertEqual(len(rows), 42)
        world = World({}, {}, [1], None)
        began = time.perf_counter()
        for use in rows:
            seen(self.program, use, world)
        for use in rows:
            tree(self.program, use)
        self.assertLess(time.perf_counter() - began, 1)

    def test_several_worlds_and_tellings(self):
        rows = uses(self.program)
        worlds = [World({"0": number}, {}, [number], None) for number in range(6)]
        began = time.perf_counter()
        for use in rows:
            for world in worlds:
                seen(self.program, use, world)
            for ask in (kinds_raised, is_silent, hangs_on):
                ask(self.program, use)
        self.assertTrue(judge(self.program, self.program))
        self.assertLess(time.perf_counter() - began, 3)

    def test_nothing_is_kept(self):
        world = World({}, {}, [1], None)
        use = ("read", "n", "z")
        self.assertEqual(seen(self.program, use, world), [("back", ("text", "zed"))])
        self.program["n"] = read_module(N.replace("zed", "other"))
        self.assertEqual(seen(self.program, use, world), [("back", ("text", "other"))])
        self.assertEqual(tree(self.program, use), ("leaf", (("back", ("text", "other")),)))
        self.program["n"] = read_module(N.replace("def act", "no = there\ndef act"))
        for ask in (lambda: seen(self.program, use, world), lambda: tree(self.program, use), lambda: hangs_on(self.program, use)):
            with self.assertRaises(BadProgram) as caught:
                ask()
            self.assertEqual((caught.exception.module, caught.exception.number), ("n", 2))

    def test_the_order_of_errors(self):
        """BadProgram, then BadUse, then TooLarge, where a call has them."""
        world = World({}, {}, [1], None)
        wide = {"m": read_module("def f(a, b, c, d, e, g, h, i, j):\n    pass\nx = none\n")}
        many = {"m": read_module("def f(a=none, b=none, c=none, d=none, e=none):\n    pass\nx = none\n")}
        methods = {"m": read_module("class c:\n    def make(s, a=none, b=none, c=none):\n        pass\n    def get(s, a=none, b=none, c=none):\n        pass\n"
                                    "    def low(s, a=none, b=none):\n        pass\nx = none\n")}
        for program in (wide, many, methods):
            bad = {**program, "n": (("pass",),)}
            for ask in (tree, kinds_raised, is_silent, hangs_on):
                with self.assertRaises(BadProgram):
                    ask(bad, None)
                with self.assertRaises(BadUse):
                    ask(program, None)
                with self.assertRaises(TooLarge):
                    ask(program, ("read", "m", "x"))
            with self.assertRaises(TooLarge):
                uses(program)
            self.assertEqual(seen(program, ("read", "m", "x"), world), [("back", ("none",))])

    def test_just_not_too_large(self):
        """What can be listed can be asked for, up to the last form."""
        for params, many in (("a=none, b=none, c=none, d=none", 31), ("a=none, /, b=none, *, c=none, d=none, e=none", 40), ("a=none, /, *, b=none, c=none, d=none, e=none", 32),
                             ("*, a=none, b=none, c=none, d=none, e=none", 32), ("a, b, c, d, e, g, h, i=none", 17), ("a=none, b=none, c=none, d=none, /, *, e=none, g=none", 20)):
            program = {"m": read_module(f"def f({params}):\n    pass\n")}
            self.assertEqual(len(uses(program)), many + 1)
            tree(program, ("read", "m", "f"))
        program = {"m": read_module("class c:\n    def make(s, a=none, b=none, c=none):\n        pass\n    def get(s, a=none, b=none, c=none):\n        pass\n    x = none\n")}
        self.assertEqual(len(uses(program)), 15 * 15 + 1)
        tree(program, ("read", "m", "c"))
        program["m"] = read_module("class c:\n    def make(s, a=none, b=none, c=none):\n        pass\n    def get(s, a=none, b=none, c=none):\n        pass\n    def low(s):\n        pass\n")
        self.assertEqual(len(uses(program)), 15 * 16 + 1)
        tree(program, ("read", "m", "c"))
        program["m"] = read_module("class c:\n    def make(s, a=none, b=none, c=none):\n        pass\n    def get(s, a=none, b=none, c=none):\n        pass\n    def low(s, a=none):\n        pass\n")
        for ask in (lambda: uses(program), lambda: tree(program, ("read", "m", "c"))):
            with self.assertRaises(TooLarge):
                ask()


if __name__ == "__main__":
    unittest.main()
