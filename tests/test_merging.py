"""[17] Two steps, and two hands' rows of steps."""

import random
import unittest

from helping import told
from nested import nested_program
from stepping import row_by_chance, step_by_chance
from tame import tame_program
from turnedparts.errors import BadPlace, BadProgram, Fixed, NotPlain, PartsError
from turnedparts.merging import Against, Clash, Merged, Together, commute, merged
from turnedparts.steps import Back, Exchange, Extract, Rename, Row

F = (0, 3)
A = ("m", (0,), "a")
TEXT = "def f(a, /):\n    see a\n    see \"t\"\n    see none\n    return a\n"


class Two(unittest.TestCase):
    def together(self, text, one, other):
        program = told(text)
        found = commute(program, one, other)
        self.assertIsInstance(found, Together)
        self.assertIs(bool(found), True)
        self.assertEqual(found.program, other.carried(program, one)(one(program)))
        self.assertEqual(found.program, one.carried(program, other)(other(program)))
        self.assertEqual(found, commute(program, other, one))
        self.assertIs(found.shows(program, one, other), True)
        self.assertIs(Against(found.program, found.program).shows(program, one, other), False)
        return found

    def against(self, text, one, other, first, second):
        program = told(text)
        found = commute(program, one, other)
        self.assertIsInstance(found, Against)
        self.assertIs(bool(found), False)
        self.assertEqual([found.one, found.other], [first, second])
        self.assertEqual(commute(program, other, one), Against(second, first))
        self.assertIs(found.shows(program, one, other), True)
        self.assertIs(found.shows(program, other, one), first == second)
        for late in (first, second):
            if late is not None:
                self.assertIs(Together(late).shows(program, one, other), False)

    def test_together(self):
        self.together(TEXT, Extract("m", F, 0, 1, "go"), Exchange("m", F, 1))
        self.together(TEXT, Extract("m", F, 0, 3, "go"), Rename({A: "b"}))
        self.together(TEXT, Extract("m", F, 0, 1, "go"), Extract("m", F, 1, 1, "on"))
        self.together(TEXT, Extract("m", F, 0, 1, "go"), Rename({A: "b"}))
        self.together(TEXT, Exchange("m", F, 0), Exchange("m", F, 2))
        self.together(TEXT, Rename({A: "b"}), Rename({A: "b"}))
        text = "def f(a, /):\n    def g():\n        x = a\n        see x\n    g()\n    see a\n    return a\n"
        self.together(text, Back("m", F, 0), Rename({("m", (0, 3, 0), "x"): "y"}))
        self.together(text, Back("m", F, 0), Exchange("m", F, 2))
        self.together(text, Back("m", F, 0), Extract("m", (0, 3, 0, 3), 0, 2, "go"))

    def test_against_as_both_differ(self):
        self.against(TEXT, Rename({A: "b"}), Rename({A: "c"}), told(TEXT.replace("(a", "(c").replace(" a\n", " c\n")), told(TEXT.replace("(a", "(b").replace(" a\n", " b\n")))

    def test_against_as_one_cannot_be_done(self):
        program = told(TEXT)
        # An exchange in the place of one that is turned round.
        self.against(TEXT, Exchange("m", F, 0), Exchange("m", F, 0), None, None)
        self.against(TEXT, Exchange("m", F, 0), Exchange("m", F, 1), None, None)
        # The single statement can be taken out behind the exchange, the exchange not behind it.
        late = Extract("m", F, 1, 1, "go")(Exchange("m", F, 0)(program))
        self.against(TEXT, Exchange("m", F, 0), Extract("m", F, 0, 1, "go"), late, None)
        late = Exchange("m", (*F, 0, 3), 0)(Extract("m", F, 0, 2, "go")(program))
        self.against(TEXT, Exchange("m", F, 0), Extract("m", F, 0, 2, "go"), None, late)
        late = Extract("m", (*F, 0, 3), 1, 1, "on")(Extract("m", F, 0, 2, "go")(program))
        self.against(TEXT, Extract("m", F, 0, 2, "go"), Extract("m", F, 1, 1, "on"), late, None)
        # The same new name.
        self.against(TEXT, Extract("m", F, 0, 1, "go"), Extract("m", F, 1, 1, "go"), None, None)
        self.against(TEXT, Extract("m", F, 0, 1, "go"), Rename({A: "go"}), None, None)
        # Of two new names, one catches what the other one gives.
        text = "def f(a, /):\n    b = a\n    return (a, b)\n"
        self.against(text, Rename({A: "c"}), Rename({("m", (0,), "b"): "c"}), None, None)
        self.against(text, Rename({A: "b", ("m", (0,), "b"): "a"}), Rename({("m", (0,), "b"): "c"}), told("def f(b, /):\n    c = b\n    return (b, c)\n"), told("def f(b, /):\n    a = b\n    return (b, a)\n"))

    def test_steps_that_cannot_be_done_at_all(self):
        self.against(TEXT, Back("m", F, 0), Exchange("m", F, 0), None, None)
        self.against(TEXT, Exchange("m", (9, 3), 0), Exchange("m", F, 0), None, None)
        self.against(TEXT, Rename({("m", (), "f"): "g"}), Rename({A: "b"}), None, None)
        self.against(TEXT, Rename({A: "from"}), Rename({A: "b"}), None, None)

    def test_shows_of_changed_ones(self):
        program = told(TEXT)
        one, other = Exchange("m", F, 0), Exchange("m", F, 2)
        found = commute(program, one, other)
        found.program["m"] = ()
        self.assertIs(found.shows(program, one, other), False)
        found.program = commute(program, one, other).program
        self.assertIs(found.shows(program, one, other), True)
        self.assertIs(found.shows(program, one, Exchange("m", F, 1)), False)
        found = commute(program, Rename({A: "b"}), Rename({A: "c"}))
        found.one, found.other = found.other, found.one
        self.assertIs(found.shows(program, Rename({A: "b"}), Rename({A: "c"})), False)
        self.assertIs(found.shows(program, Rename({A: "c"}), Rename({A: "b"})), True)
        found.one = None
        self.assertIs(found.shows(program, Rename({A: "c"}), Rename({A: "b"})), False)
        for made in (Together(program), Against(None, None)):
            with self.assertRaises(BadProgram):
                made.shows({}, one, other)
        with self.assertRaises(BadProgram):
            commute({"m": 1}, None, None)

    def test_made_by_hand(self):
        program = told(TEXT)
        made, other = Together(program), Against(program, None)
        program["m"] = ()
        self.assertEqual([made.program, other.one, other.other], [told(TEXT), told(TEXT), None])
        self.assertTrue(made == Together(told(TEXT)) and other == Against(told(TEXT), None))
        for thing in (other, Together({"m": ()}), None, made.program):
            self.assertFalse(made == thing)
        for thing in (made, Against(None, told(TEXT)), Against(told(TEXT), told(TEXT)), None):
            self.assertFalse(other == thing)

    def test_by_chance(self):
        many = {}
        for seed in range(50):
            program = nested_program(seed) or tame_program(seed)
            if program is None:
                continue
            chance = random.Random(seed)
            for _ in range(6):
                one, other = step_by_chance(chance, program), step_by_chance(chance, program)
                found = commute(program, one, other)
                many[bool(found)] = many.get(bool(found), 0) + 1
                self.assertEqual(found, told_by_words(program, one, other))
                self.assertTrue(found.shows(program, one, other))
        self.assertTrue(min(many.values()) > 25, many)


def told_by_words(program, one, other):
    rows = []
    for first, second in ((one, other), (other, one)):
        try:
            rows.append(second.carried(program, first).done(first.done(program)))
        except PartsError:
            rows.append(None)
    return Together(rows[0]) if None not in rows and rows[0] == rows[1] else Against(*rows)


class Hands(unittest.TestCase):
    def look(self, program, ones, others):
        """See that merging is as told; what is found."""
        found = merged(program, ones, others)
        if found:
            self.assertIsInstance(found, Merged)
            self.assertEqual([len(found.ones), len(found.others)], [len(ones), len(others)])
            self.assertEqual(found.program, Row(found.others)(Row(ones)(program)))
            self.assertEqual(found.program, Row(found.ones)(Row(others)(program)))
            late = merged(program, others, ones)
            self.assertEqual(late, Merged(found.program, found.others, found.ones))
        else:
            self.assertIsInstance(found, Clash)
            self.assertFalse(found.told)
            self.assertEqual((found.one, found.other, found.told), first_clash(program, ones, others))
        self.assertEqual(found, merged(program, tuple(ones), tuple(others)))
        return found

    def test_merged(self):
        program = told(TEXT)
        found = self.look(program, [Extract("m", F, 0, 1, "go")], [Extract("m", F, 1, 1, "on"), Rename({A: "b"})])
        self.assertIs(bool(found), True)
        self.assertEqual(found.others, [Extract("m", F, 2, 1, "on"), Rename({A: "b"})])
        self.assertEqual(found.ones, [Extract("m", F, 0, 1, "go")])
        found = self.look(program, [Exchange("m", F, 0), Exchange("m", F, 0)], [Exchange("m", F, 2)])
        self.assertTrue(found)

    def test_rows_of_no_steps(self):
        program = told(TEXT)
        self.assertEqual(merged(program, [], []), Merged(program, [], []))
        ones = [Exchange("m", F, 0), Rename({A: "b"})]
        self.assertEqual(self.look(program, ones, []), Merged(Row(ones)(program), ones, []))
        self.assertEqual(self.look(program, (), ones), Merged(Row(ones)(program), [], ones))

    def test_the_first_square(self):
        program = told(TEXT)
        go, swap, late = Extract("m", F, 0, 1, "go"), Exchange("m", F, 0), Exchange("m", F, 2)
        self.assertEqual(self.look(program, [go], [swap]).told, commute(program, go, swap))
        found = self.look(program, [late, go], [swap])
        self.assertEqual([found.one, found.other], [1, 0])
        found = self.look(program, [late, Extract("m", F, 0, 1, "go")], [Rename({A: "b"}), swap])
        self.assertEqual([found.one, found.other], [1, 1])
        self.assertIs(bool(found), False)
        # Squares with the same sum: that with the least first number.
        found = self.look(program, [Rename({A: "b"}), Rename({("m", (0,), "b"): "c"})], [Exchange("m", F, 0), Rename({A: "d"})])
        self.assertEqual([found.one, found.other], [0, 1])
        found = self.look(program, [Exchange("m", F, 0), Rename({A: "d"})], [Rename({A: "b"}), Rename({("m", (0,), "b"): "c"})])
        self.assertEqual([found.one, found.other], [1, 0])

    def test_errors(self):
        program = told(TEXT)
        fixed, far, back = Rename({("m", (), "f"): "g"}), Exchange("m", F, 9), Back("m", F, 0)
        for ones, others, kind in (([fixed], [far], Fixed), ([far], [fixed], BadPlace), ([], [back], NotPlain), ([Exchange("m", F, 0), back], [far], NotPlain), ([Exchange("m", F, 0)], [far, back], BadPlace),
                                   ([Extract("m", F, 0, 1, "go"), Extract("m", F, 0, 1, "go")], [far], NotPlain)):
            with self.assertRaises(kind):
                merged(program, ones, others)
        # Each row is done on the program itself.
        self.assertFalse(merged(program, [Extract("m", F, 0, 1, "go")], [Extract("m", F, 0, 1, "go")]))
        with self.assertRaises(BadProgram):
            merged({}, [far], None)

    def test_made_by_hand(self):
        program, ones, others = told(TEXT), [Exchange("m", F, 0)], [Rename({A: "b"})]
        made = Merged(program, ones, others)
        against = Against(program, None)
        clash = Clash(1, 2, against)
        program.clear()
        ones[0].first = 4
        others[0].names.clear()
        ones.clear()
        against.one = None
        self.assertEqual(made, Merged(told(TEXT), [Exchange("m", F, 0)], (Rename({A: "b"}),)))
        self.assertEqual(clash, Clash(1, 2, Against(told(TEXT), None)))
        for thing in (clash, None, Merged(told(TEXT), [], made.others), Merged(told(TEXT), made.ones, []), Merged({"m": ()}, made.ones, made.others)):
            self.assertFalse(made == thing)
        for thing in (made, None, Clash(2, 2, clash.told), Clash(1, 1, clash.told), Clash(1, 2, Against(None, None))):
            self.assertFalse(clash == thing)
        self.assertEqual([bool(made), bool(clash), hasattr(made, "shows"), hasattr(clash, "shows")], [True, False, False, False])

    def test_arguments_and_answers(self):
        program = told(TEXT)
        ones, others = [Exchange("m", F, 0)], [Rename({A: "b"})]
        found, kept = merged(program, ones, []), merged(program, ones, others)
        found.ones[0].first = 3
        found.program.clear()
        self.assertEqual([ones, others, program], [[Exchange("m", F, 0)], [Rename({A: "b"})], told(TEXT)])
        late = merged(program, ones, others)
        late.ones.clear()
        late.others[0].names.clear()
        self.assertEqual(merged(program, ones, others), kept)
        self.assertEqual(others, [Rename({A: "b"})])

    def test_by_chance(self):
        many = {}
        for seed in range(45):
            program = nested_program(seed) or tame_program(seed)
            if program is None:
                continue
            chance = random.Random(seed)
            for _ in range(3):
                ones, others = (row_by_chance(chance, program, chance.randint(0, 3)) for _ in range(2))
                found = self.look(program, ones, others)
                many[bool(found)] = many.get(bool(found), 0) + 1
        self.assertTrue(min(many.values()) > 15, many)


def first_clash(program, ones, others):
    """The first square that does not go together, told by the words of the document, with all carried anew."""
    for total in range(len(ones) + len(others) - 1):
        for one in range(total + 1):
            other = total - one
            if one < len(ones) and other < len(others):
                found = commute(behind(program, ones, others, one, other), carried(program, ones, others, one, other), carried(program, others, ones, other, one))
                if not found:
                    return (one, other, found)
    return None


def behind(program, ones, others, one, other):
    """The program behind the first steps of both hands."""
    if other == 0:
        return Row(ones[:one])(program)
    return carried(program, others, ones, other - 1, one)(behind(program, ones, others, one, other - 1))


def carried(program, ones, others, one, other):
    """The step with a number of one hand, carried behind the first ones of the other hand."""
    if other == 0:
        return ones[one]
    early = carried(program, ones, others, one, other - 1)
    return early.carried(behind(program, ones, others, one, other - 1), carried(program, others, ones, other - 1, one))


if __name__ == "__main__":
    unittest.main()
