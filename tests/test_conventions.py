"""[1] Conventions: arguments that stay as they are, answers that are new and the same again."""

import copy
import unittest

from chance import program_by_chance
from turnedparts.alikes import judge, tree
from turnedparts.errors import BadProgram, BadText, BadUse, BadWorld, Handed, Ring, TooLarge
from turnedparts.leaving import lean
from turnedparts.outside import seen, uses
from turnedparts.programs import check_program, is_program
from turnedparts.reading import read_module
from turnedparts.shapes import is_expr
from turnedparts.tellings import hangs_on, is_silent, kinds_raised, never_done
from turnedparts.worlds import World
from turnedparts.writing import write_expr, write_module

TEXT = ('def _g(a):\n    try:\n        yield (a, ?p(a))\n    finally:\n        see a\nclass c:\n    def make(self, a, b=x):\n        self.a = (a, b)\n'
        '    def get(self, *, d=none):\n        each y in _g(self.a):\n            return y if d else self.a\nx = ?q()\ndef f(a):\n    return _g(a)\n')


class Conventions(unittest.TestCase):
    def test_arguments_stay_as_they_are(self):
        program = {"n": (), "m": read_module(TEXT)}
        world = World({"0": 4, ".d": 5}, {("q", ()): 3}, [5], None)
        kept, kept_world = copy.deepcopy(program), copy.deepcopy(world)
        order = list(program)
        check_program(program)
        is_program(program)
        write_module(program, "m")
        for use in uses(program, program):
            seen(program, use, world)
            tree(program, use)
            for ask in (kinds_raised, is_silent, hangs_on):
                ask(program, use)
        never_done(program)
        judge(program, {**program, "m": program["m"][:-1]})
        lean(program)
        self.assertEqual(program, kept)
        self.assertEqual(list(program), order)
        self.assertEqual(world, kept_world)

    def test_answers_are_new(self):
        program = {"m": read_module(TEXT)}
        first = uses(program)
        first.clear()
        again = uses(program)
        self.assertGreater(len(again), 5)
        world = World({"0": 4, ".d": 5}, {("q", ()): 3}, [5], None)
        for use in again:
            events = seen(program, use, world)
            kept = list(events)
            events.append("more")
            self.assertEqual(seen(program, use, world), kept)

    def test_answers_of_tellings_are_new(self):
        program = {"m": read_module("def f(a):\n    if a:\n        raise bad\n    return\n    pass\n")}
        use = ("call", "m", "f", 1, ())
        for ask in (lambda: kinds_raised(program, use), lambda: hangs_on(program, use), lambda: never_done(program)):
            found = ask()
            kept = list(found)
            self.assertEqual(len(found), 1)
            found.clear()
            self.assertEqual(ask(), kept)
        for ask in (lambda: judge(program, program), lambda: judge(program, {"m": ()}), lambda: lean(program)):
            found, kept = ask(), ask()
            self.assertEqual(found, kept)
            for name in vars(found):
                setattr(found, name, None)
            self.assertEqual(ask(), kept)
            self.assertNotEqual(ask(), found)

    def test_programs_are_not_kept(self):
        program = {"m": read_module('def f():\n    return "a"\n')}
        use, world = ("call", "m", "f", 0, ()), World({}, {}, [], None)
        self.assertEqual(seen(program, use, world), [("back", ("text", "a"))])
        program["m"] = read_module('def f():\n    return "b"\n')
        self.assertEqual(seen(program, use, world), [("back", ("text", "b"))])
        program["n"] = read_module("x = none\n")
        self.assertEqual(len(uses(program)), 3)
        del program["m"]
        self.assertEqual(uses(program), [("read", "n", "x")])

    def test_worlds_are_read_as_they_are(self):
        program = {"m": read_module("def f(a):\n    return a\n")}
        world = World({}, {}, [], None)
        self.assertEqual(seen(program, ("call", "m", "f", 1, ()), world), [("back", ("number", 0))])
        world.inputs["0"] = 9
        self.assertEqual(seen(program, ("call", "m", "f", 1, ()), world), [("back", ("number", 9))])

    def test_dicts_in_any_order(self):
        one = {"m": read_module("use n\nx = n.x\n"), "n": read_module("x = ?p()\ndef f():\n    pass\n")}
        other = {name: one[name] for name in reversed(list(one))}
        self.assertEqual(uses(one), uses(other))
        self.assertEqual(uses(one, other), uses(one))
        world = World({}, {("p", ()): 6}, [], None)
        for use in uses(one):
            self.assertEqual(seen(one, use, world), seen(other, use, world))
            self.assertEqual(tree(one, use), tree(other, use))
        self.assertEqual(never_done(one), never_done(other))
        self.assertEqual(lean(one), lean(other))
        self.assertTrue(judge(one, other))

    def test_lists_are_no_tuples(self):
        told = read_module("x = (none, none)\n")
        self.assertTrue(is_program({"m": told}))
        for thing in (list(told), (list(told[0]),), (("let", "x", list(told[0][2])),), (("let", "x", ("tuple", list(told[0][2][1]))),)):
            self.assertFalse(is_program({"m": thing}))
        self.assertFalse(is_expr(["none"]))
        with self.assertRaises(BadUse):
            seen({"m": told}, ["read", "m", "x"], World({}, {}, [], None))

    def test_booleans_are_no_integers(self):
        told = {"m": read_module("def f(a):\n    return a\n")}
        with self.assertRaises(BadUse):
            seen(told, ("call", "m", "f", True, ()), World({}, {}, [], None))
        for arguments in (({"0": True}, {}, [], None), ({}, {("f", ()): True}, [], None), ({}, {}, [True], None), ({}, {}, [], True),
                          ({}, {("f", (("number", True),)): 1}, [], None)):
            with self.assertRaises(BadWorld):
                World(*arguments)

    def test_the_error_documented_first(self):
        world = World({}, {}, [], None)
        with self.assertRaises(BadProgram):
            seen({"m": []}, None, world)
        with self.assertRaises(BadProgram):
            uses({"m": read_module("def f(a, b, c, d, e, g, h, i, j):\n    pass\n")}, {"m": 1})
        with self.assertRaises(BadProgram):
            write_module({"m": 1}, "n")

    def test_errors_have_their_attributes(self):
        error = BadProgram("m", 3)
        self.assertEqual((error.module, error.number), ("m", 3))
        error = BadText(3, 4)
        self.assertEqual((error.line, error.column), (3, 4))
        error = Ring("m", 3)
        self.assertEqual((error.module, error.number), ("m", 3))
        self.assertEqual(Handed("see").kind, "see")
        for kind in (BadProgram, BadText, BadUse, BadWorld, Handed, Ring, TooLarge):
            self.assertTrue(issubclass(kind, ValueError))

    def test_asked_again(self):
        for seed in range(40):
            program, chance = program_by_chance(seed)
            if program is None:
                continue
            try:
                rows = uses(program)
            except TooLarge:
                continue
            self.assertEqual(rows, uses(program))
            self.assertEqual(rows, sorted(set(rows)))
            world = chance.world()
            for use in rows[:6]:
                try:
                    events = seen(program, use, world)
                except (Ring, Handed):
                    continue
                self.assertEqual(events, seen(copy.deepcopy(program), use, copy.deepcopy(world)))

    def test_judging_is_asked_again(self):
        one, other = {"m": read_module(TEXT)}, {"m": read_module(TEXT.replace("see a", "see (a,)"))}
        for first, second in ((one, one), (one, other), (other, one)):
            self.assertEqual(judge(first, second), judge(copy.deepcopy(first), copy.deepcopy(second)))
        self.assertEqual(lean(one), lean(copy.deepcopy(one)))
        for use in uses(one):
            self.assertEqual(tree(one, use), tree(copy.deepcopy(one), use))
            self.assertEqual(hangs_on(one, use), hangs_on(copy.deepcopy(one), use))

    def test_texts_are_asked_again(self):
        self.assertEqual(read_module(TEXT), read_module(TEXT))
        self.assertEqual(write_expr(("op", "p", ())), write_expr(("op", "p", ())))


if __name__ == "__main__":
    unittest.main()
