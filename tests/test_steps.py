"""[17] Steps: done, followed, carried, equal, and in rows."""

import random
import unittest

from helping import told
from nested import nested_program
from places import part
from stepping import step_by_chance
from tame import tame_program
from turnedparts.errors import BadNames, BadPlace, BadProgram, Caught, Fixed, Gone, NotPlain, PartsError
from turnedparts.extracting import extract, put_back
from turnedparts.reading import read_module
from turnedparts.renaming import renamed
from turnedparts.steps import Back, Exchange, Extract, Rename, Row, Step
from turnedparts.turning import exchanged

F = (0, 3)
A = ("m", (0,), "a")
TEXT = "def f(a, /):\n    see \"t\"\n    a = none\n    if a:\n        see a\n        see none\n    see \"u\"\n    return a\n"
BACK = "def f(a, /):\n    see a\n    def g():\n        nonlocal a\n        a = none\n        if a:\n            see a\n        see none\n    g()\n    see a\n    return a\n"


class Done(unittest.TestCase):
    def test_each(self):
        program = told(TEXT)
        for step, late in ((Rename({A: "b"}), renamed(program, {A: "b"})), (Extract("m", F, 1, 2, "go"), extract(program, "m", F, 1, 3, "go")),
                           (Exchange("m", F, 0), exchanged(program, "m", F, 0))):
            self.assertEqual(step.done(program), late)
            self.assertEqual(step(program), late)
            self.assertIsInstance(step, Step)
        program = told(BACK)
        self.assertEqual(Back("m", F, 1).done(program), put_back(program, "m", F, 1))
        self.assertEqual(Back("m", F, 1)(program), put_back(program, "m", F, 1))
        self.assertEqual(Extract("m", F, 0, 1, "go").done(told(TEXT)), extract(told(TEXT), "m", F, 0, 1, "go"))

    def test_attributes(self):
        step = Extract("m", F, 1, 2, "go")
        self.assertEqual([step.module, step.path, step.first, step.many, step.name], ["m", F, 1, 2, "go"])
        for kind in (Back, Exchange):
            step = kind("m", F, 3)
            self.assertEqual([step.module, step.path, step.first], ["m", F, 3])
        self.assertEqual(Rename({A: "b"}).names, {A: "b"})

    def test_errors(self):
        program = told(TEXT)
        for step, kind in ((Rename({A: "from"}), BadNames), (Rename(None), BadNames), (Rename({("m", (), "f"): "g"}), Fixed), (Extract("m", F, 0, 0, "go"), BadPlace),
                           (Extract("m", F, 0, None, "go"), BadPlace), (Extract("m", F, True, 1, "go"), BadPlace), (Extract("m", F, 0, True, "go"), BadPlace), (Extract("m", F, 4, 2, "go"), BadPlace),
                           (Extract("m", (0,), 0, 1, "go"), BadPlace), (Extract("m", F, 4, 1, "go"), NotPlain), (Back("m", F, 0), NotPlain), (Back("m", F, 4), BadPlace), (Exchange("m", F, 4), BadPlace),
                           (Exchange("n", F, 0), BadPlace)):
            with self.assertRaises(kind):
                step.done(program)
            with self.assertRaises(kind):
                step(program)
            with self.assertRaises(kind):
                step.follow(program, "m", (*F, 0))
            with self.assertRaises(kind):
                Exchange("m", F, 0).carried(program, step)
        with self.assertRaises(Caught):
            Rename({A: "g"}).done(told("def f(a, /):\n    return g(a)\ndef g():\n    pass\n"))
        for step in (Rename(None), Extract(None, None, None, None, None), Back(None, None, None), Exchange(None, None, None), Row([])):
            with self.assertRaises(BadProgram):
                step({})
            if not isinstance(step, Row):
                for ask in (lambda: step.done({}), lambda: step.follow({}, "m", F), lambda: step.carried({}, step)):
                    with self.assertRaises(BadProgram):
                        ask()
        self.assertTrue(issubclass(Gone, PartsError))


class Followed(unittest.TestCase):
    def follows(self, step, text, rows, module="m"):
        """See where places are behind a step, None for gone ones; statements but for those of Rename stay as they are."""
        program = told(text)
        late = step(program)
        for path, place in rows:
            if place is None:
                with self.assertRaises(Gone):
                    step.follow(program, module, path)
                continue
            self.assertEqual(step.follow(program, module, path), place, path)
            if not isinstance(step, Rename):
                self.assertEqual(part(program[module], path)[0], part(late[module], place)[0])

    def test_rename(self):
        self.follows(Rename({A: "b"}), TEXT, [((0,), (0,)), ((*F, 2, 2, 1), (*F, 2, 2, 1))])

    def test_extract(self):
        # Two statements, which give a name of the function's.
        self.follows(Extract("m", F, 1, 2, "go"), TEXT, [((0,), (0,)), ((*F, 0), (*F, 0)), ((*F, 1), (*F, 1, 3, 1)), ((*F, 2), (*F, 1, 3, 2)), ((*F, 2, 2, 1), (*F, 1, 3, 2, 2, 1)),
                                                         ((*F, 3), (*F, 3)), ((*F, 4), (*F, 4))])
        self.follows(Extract("m", F, 2, 1, "go"), TEXT, [((*F, 1), (*F, 1)), ((*F, 2), (*F, 2, 3, 0)), ((*F, 2, 2, 0), (*F, 2, 3, 0, 2, 0)), ((*F, 3), (*F, 4)), ((*F, 4), (*F, 5))])
        self.follows(Extract("m", F, 0, 4, "go"), TEXT, [((*F, 0), (*F, 0, 3, 1)), ((*F, 3), (*F, 0, 3, 4)), ((*F, 4), (*F, 2))])
        self.follows(Extract("m", (*F, 2, 2), 0, 1, "go"), TEXT, [((*F, 2), (*F, 2)), ((*F, 2, 2, 0), (*F, 2, 2, 0, 3, 0)), ((*F, 2, 2, 1), (*F, 2, 2, 2)), ((*F, 3), (*F, 3)), ((*F, 1), (*F, 1))])

    def test_back(self):
        self.follows(Back("m", F, 1), BACK, [((0,), (0,)), ((*F, 0), (*F, 0)), ((*F, 1), None), ((*F, 1, 3, 0), None), ((*F, 1, 3, 1), (*F, 1)), ((*F, 1, 3, 2), (*F, 2)), ((*F, 1, 3, 2, 2, 0), (*F, 2, 2, 0)),
                                             ((*F, 1, 3, 3), (*F, 3)), ((*F, 2), None), ((*F, 3), (*F, 4)), ((*F, 4), (*F, 5))])
        self.follows(Back("m", F, 0), "def f(a, /):\n    def g():\n        see a\n    g()\n    if a:\n        pass\n", [((*F, 0, 3, 0), (*F, 0)), ((*F, 0), None), ((*F, 1), None), ((*F, 2), (*F, 1)), ((*F, 2, 2, 0), (*F, 1, 2, 0))])

    def test_exchange(self):
        self.follows(Exchange("m", F, 1), TEXT, [((0,), (0,)), ((*F, 0), (*F, 0)), ((*F, 1), (*F, 2)), ((*F, 2), (*F, 1)), ((*F, 2, 2, 1), (*F, 1, 2, 1)), ((*F, 3), (*F, 3)), ((*F, 4), (*F, 4))])
        self.follows(Exchange("m", (*F, 2, 2), 0), TEXT, [((*F, 2), (*F, 2)), ((*F, 2, 2, 0), (*F, 2, 2, 1)), ((*F, 2, 2, 1), (*F, 2, 2, 0)), ((*F, 3), (*F, 3))])

    def test_other_modules(self):
        program = told(TEXT, n=TEXT)
        for step in (Extract("m", F, 0, 2, "go"), Exchange("m", F, 0), Rename({A: "b"})):
            self.assertEqual(step.follow(program, "n", (*F, 0)), (*F, 0))
        self.assertEqual(Back("m", F, 1).follow(told(BACK, n=TEXT), "n", (*F, 1)), (*F, 1))

    def test_by_chance(self):
        many = 0
        for seed in range(60):
            program = nested_program(seed) or tame_program(seed)
            if program is None:
                continue
            chance = random.Random(seed)
            for _ in range(4):
                step = step_by_chance(chance, program)
                try:
                    late = step(program)
                except PartsError:
                    continue
                many += 1
                self.look(program, step, late)
        self.assertGreater(many, 60)

    def look(self, program, step, late):
        """See that statements are followed to themselves, each to a place of its own."""
        places = {}
        gone = []
        for module in program:
            for path in statement_paths(program[module], ()):
                try:
                    place = step.follow(program, module, path)
                except Gone:
                    gone.append(part(program[module], path)[0])
                    continue
                self.assertNotIn((module, place), places)
                places[(module, place)] = path
                one, other = part(program[module], path), part(late[module], place)
                self.assertEqual(one[0], other[0])
                if not isinstance(step, Rename) and (step.module != module or path != step.path[:len(path)]):
                    self.assertEqual(one, other)
        self.assertEqual(gone[:1], ["def"] if isinstance(step, Back) else [])
        self.assertIn(len(gone), (2, 3) if isinstance(step, Back) else (0,))


def statement_paths(thing, path):
    """The paths of all statements of a tuple of statements."""
    found = []
    for at, row in enumerate(thing):
        found.append((*path, at))
        if row[0] in ("def", "class", "for", "each", "with"):
            found += statement_paths(row[3], (*path, at, 3))
        elif row[0] == "if":
            found += statement_paths(row[2], (*path, at, 2)) + statement_paths(row[3], (*path, at, 3))
        elif row[0] == "try":
            found += statement_paths(row[1], (*path, at, 1)) + statement_paths(row[3], (*path, at, 3))
            for number, handler in enumerate(row[2]):
                found += statement_paths(handler[2], (*path, at, 2, number, 2))
    return found


class Carried(unittest.TestCase):
    def carries(self, text, step, other, late):
        """See what a step is behind another one, None for gone."""
        program = told(text)
        if late is None:
            with self.assertRaises(Gone):
                step.carried(program, other)
        else:
            found = step.carried(program, other)
            self.assertEqual(found, late)
            self.assertIs(type(found), type(step))

    def test_extracts(self):
        for kind in (lambda path, first: Extract("m", path, first, 2, "on"), lambda path, first: Exchange("m", path, first)):
            self.carries(TEXT, kind(F, 0), Extract("m", F, 0, 2, "go"), kind((*F, 0, 3), 1))
            self.carries(TEXT, kind(F, 0), Extract("m", F, 0, 1, "go"), None)
            self.carries(TEXT, kind(F, 0), Extract("m", F, 1, 1, "go"), None)
            self.carries(TEXT, kind(F, 0), Extract("m", F, 2, 1, "go"), kind(F, 0))
            self.carries(TEXT, kind(F, 3), Extract("m", F, 0, 3, "go"), kind(F, 2))
            self.carries(TEXT, kind(F, 3), Extract("m", F, 2, 1, "go"), kind(F, 4))
            self.carries(TEXT, kind((*F, 2, 2), 0), Extract("m", F, 2, 2, "go"), kind((*F, 2, 3, 0, 2), 0))
            self.carries(TEXT, kind((*F, 2, 2), 0), Extract("m", F, 1, 2, "go"), kind((*F, 1, 3, 2, 2), 0))
            self.carries(TEXT, kind(F, 2), Extract("m", (*F, 2, 2), 0, 2, "go"), kind(F, 2))
            self.carries(TEXT, kind(F, 0), Exchange("m", F, 0), None)
            self.carries(TEXT, kind(F, 0), Exchange("m", F, 1), None)
            self.carries(TEXT, kind(F, 0), Exchange("m", F, 2), kind(F, 0))
            self.carries(TEXT, kind((*F, 2, 2), 0), Exchange("m", F, 2), kind((*F, 3, 2), 0))
            self.carries(TEXT, kind((*F, 2, 2), 0), Exchange("m", (*F, 2, 2), 0), None)
            self.carries(TEXT, kind(F, 0), Rename({A: "b"}), kind(F, 0))
            self.carries(BACK, kind((*F, 1, 3), 1), Back("m", F, 1), kind(F, 1))
            self.carries(BACK, kind((*F, 1, 3), 2), Back("m", F, 1), kind(F, 2))
            self.carries(BACK, kind((*F, 1, 3), 0), Back("m", F, 1), None)
            self.carries(BACK, kind(F, 1), Back("m", F, 1), None)
            self.carries(BACK, kind(F, 0), Back("m", F, 1), None)
            self.carries(BACK, kind(F, 3), Back("m", F, 1), kind(F, 4))
        self.carries(TEXT, Extract("m", F, 0, 3, "on"), Exchange("m", F, 0), None)
        self.carries(TEXT, Extract("m", F, 0, 3, "on"), Extract("m", F, 1, 1, "go"), None)
        self.carries(TEXT, Extract("m", F, 1, 1, "on"), Extract("m", F, 0, 3, "go"), Extract("m", (*F, 0, 3), 2, 1, "on"))
        self.carries(TEXT, Extract("m", F, 1, 1, "on"), Exchange("m", F, 0), Extract("m", F, 0, 1, "on"))

    def test_backs(self):
        self.carries(BACK, Back("m", F, 1), Extract("m", F, 0, 1, "go"), Back("m", F, 2))
        self.carries(BACK, Back("m", F, 1), Extract("m", F, 1, 2, "go"), Back("m", (*F, 1, 3), 0))
        self.carries(BACK, Back("m", F, 1), Extract("m", F, 0, 4, "go"), Back("m", (*F, 0, 3), 1))
        self.carries(BACK, Back("m", F, 1), Extract("m", F, 2, 1, "go"), None)
        self.carries(BACK, Back("m", F, 1), Extract("m", (*F, 1, 3), 1, 2, "go"), Back("m", F, 1))
        self.carries(BACK, Back("m", F, 1), Exchange("m", F, 1), None)
        self.carries(BACK, Back("m", F, 1), Exchange("m", F, 0), None)
        self.carries(BACK, Back("m", F, 1), Exchange("m", F, 3), Back("m", F, 1))
        self.carries(BACK, Back("m", F, 1), Back("m", F, 1), None)
        self.carries(BACK, Back("m", F, 1), Rename({("m", (0,), "g"): "h"}), Back("m", F, 1))

    def test_renames(self):
        g, x = ("m", (0,), "g"), ("m", (0, 3, 1), "x")
        text = "def f(a, /):\n    see a\n    def g():\n        x = a\n        see x\n    g()\n    return a\n"
        self.carries(text, Rename({A: "b", g: "h"}), Exchange("m", F, 0), Rename({A: "b", g: "h"}))
        self.carries(text, Rename({A: "b", x: "h"}), Exchange("m", F, 0), Rename({A: "b", ("m", (0, 3, 0), "x"): "h"}))
        self.carries(text, Rename({A: "b", x: "h"}), Extract("m", F, 1, 2, "go"), Rename({A: "b", ("m", (0, 3, 1, 3, 0), "x"): "h"}))
        self.carries(text, Rename({g: "h"}), Extract("m", F, 1, 2, "go"), Rename({("m", (0, 3, 1), "g"): "h"}))
        self.carries(text, Rename({g: "h"}), Back("m", F, 1), None)
        self.carries(text, Rename({A: "b", g: "h"}), Back("m", F, 1), None)
        self.carries(text, Rename({x: "h", A: "b"}), Back("m", F, 1), Rename({("m", (0,), "x"): "h", A: "b"}))
        self.carries(text, Rename({A: "b"}), Rename({A: "c"}), Rename({("m", (0,), "c"): "b"}))
        self.carries(text, Rename({A: "b"}), Rename({x: "y"}), Rename({A: "b"}))
        self.carries(text, Rename({("m", (9,), "z"): "b"}), Rename({x: "y"}), None)
        self.carries(text, Rename({}), Exchange("m", F, 0), Rename({}))

    def test_the_first_place_that_is_left(self):
        # The first place, in the nonlocal, is gone; the next one is where it was put.
        text = "def f(a, /):\n    def g():\n        nonlocal b\n        see b\n        b = a\n    g()\n    b = a\n"
        b = ("m", (0,), "b")
        self.carries(text, Rename({b: "c"}), Back("m", F, 0), Rename({b: "c"}))
        # A name at a call comes first.
        text = "def f(a):\n    see _g(x=a)\n    see a\ndef _g(x):\n    return x\n"
        self.carries(text, Rename({("m", (1,), "x"): "y"}), Exchange("m", F, 0), Rename({("m", (1,), "x"): "y"}))

    def test_gone(self):
        program = told(TEXT)
        for step in (Extract("m", F, 4, 2, "on"), Extract("m", F, 0, 0, "on"), Extract("n", F, 0, 1, "on"), Back("m", F, 4), Exchange("m", F, 4), Exchange("m", (0,), 0), Exchange("m", (), 0)):
            with self.assertRaises(Gone):
                step.carried(program, Rename({A: "b"}))

    def test_other_modules(self):
        program = told(TEXT, n=TEXT)
        step = Exchange("n", F, 0)
        self.assertEqual(step.carried(program, Extract("m", F, 0, 2, "go")), step)
        self.assertEqual(Rename({("n", (0,), "a"): "b"}).carried(program, Extract("m", F, 0, 2, "go")), Rename({("n", (0,), "a"): "b"}))


class Rows(unittest.TestCase):
    def test_equal(self):
        steps = [Rename({}), Rename({A: "b"}), Rename({A: "c"}), Extract("m", F, 0, 1, "go"), Extract("m", F, 0, 2, "go"), Extract("m", F, 0, 1, "on"), Extract("m", F, 1, 1, "go"), Extract("n", F, 0, 1, "go"),
                 Extract("m", (1, 3), 0, 1, "go"), Back("m", F, 0), Back("m", F, 1), Back("n", F, 0), Back("m", (1, 3), 0), Exchange("m", F, 0), Exchange("m", F, 1), Exchange("n", F, 0), Exchange("m", (1, 3), 0)]
        again = [Rename({}), Rename({A: "b"}), Rename({A: "c"}), Extract("m", F, 0, 1, "go"), Extract("m", F, 0, 2, "go"), Extract("m", F, 0, 1, "on"), Extract("m", F, 1, 1, "go"), Extract("n", F, 0, 1, "go"),
                 Extract("m", (1, 3), 0, 1, "go"), Back("m", F, 0), Back("m", F, 1), Back("n", F, 0), Back("m", (1, 3), 0), Exchange("m", F, 0), Exchange("m", F, 1), Exchange("n", F, 0), Exchange("m", (1, 3), 0)]
        for at, one in enumerate(steps):
            for number, other in enumerate(again):
                self.assertIs(one == other, at == number)
                self.assertIs(Row([one]) == Row([other]), at == number)
            self.assertFalse(one == None)  # noqa: E711
            self.assertFalse(one == Row([one]))
        self.assertFalse(Row([]) == [])
        self.assertTrue(Row([]) == Row(()))
        self.assertFalse(Row(steps[:2]) == Row([steps[1], steps[0]]))

    def test_adding(self):
        one, two, three = Rename({A: "b"}), Exchange("m", F, 0), Extract("m", F, 0, 1, "go")
        for row in (one + (two + three), (one + two) + three, one + two + three, Row([one]) + Row((two, three)), Row([]) + one + two + three, one + Row([two, three])):
            self.assertIsInstance(row, Row)
            self.assertEqual(row, Row([one, two, three]))
            self.assertEqual(len(row), 3)
            self.assertEqual(row.steps, [one, two, three])
        back = Back("m", F, 0)
        self.assertEqual((back + two).steps, [back, two])
        self.assertEqual((one + one).steps, [one, one])
        self.assertEqual(len(Row([])), 0)

    def test_calling(self):
        program = told(TEXT)
        row = Extract("m", F, 0, 1, "go") + Rename({A: "b"}) + Back("m", F, 0) + Exchange("m", F, 0)
        self.assertEqual(row(program), exchanged(renamed(program, {A: "b"}), "m", F, 0))
        self.assertEqual(Row([])(program), program)
        late = Row([])(program)
        late["n"] = ()
        self.assertEqual(list(program), ["m"])
        with self.assertRaises(NotPlain):
            (row + Back("m", F, 0))(program)
        with self.assertRaises(BadProgram):
            row({"m": []})

    def test_what_is_given_is_copied(self):
        names = {A: "b"}
        step = Rename(names)
        names[A] = "c"
        self.assertEqual(step.names, {A: "b"})
        steps = [step, Exchange("m", F, 0)]
        row = Row(steps)
        whole = step + steps[1]
        steps.clear()
        step.names[A] = "d"
        for made in (row, whole):
            self.assertEqual(made, Row([Rename({A: "b"}), Exchange("m", F, 0)]))
        row.steps.pop()
        row.steps[0].names = {A: "e"}
        self.assertEqual(row(told("def f(a, /):\n    return a\n")), told("def f(e, /):\n    return e\n"))
        one = Exchange("m", F, 0)
        more = whole + one
        one.first = 7
        whole.steps[1].first = 8
        self.assertEqual([inner.first for inner in more.steps[1:]], [0, 0])

    def test_attributes_may_be_changed(self):
        program = told(TEXT)
        step = Exchange("m", F, 0)
        step.first = 1
        self.assertEqual(step(program), exchanged(program, "m", F, 1))
        self.assertEqual(step.follow(program, "m", (*F, 1)), (*F, 2))
        step = Extract("m", F, 0, 1, "go")
        step.many, step.name = 2, "on"
        self.assertEqual(step(program), extract(program, "m", F, 0, 2, "on"))

    def test_answers_are_new(self):
        program = told(TEXT)
        step = Rename({A: "b"})
        late = step.carried(program, Exchange("m", F, 0))
        late.names.clear()
        self.assertEqual(step.names, {A: "b"})
        self.assertEqual(step.carried(program, Exchange("m", F, 0)), step)
        self.assertEqual(program, {"m": read_module(TEXT)})


if __name__ == "__main__":
    unittest.main()
