"""[11] Left out: what is taken away, in which order, and why the rest stays."""

import copy
import unittest

from chance import program_by_chance
from helping import call, told
from model import blocks, count
from tame import tame_program
from turnedparts.alikes import Alike, Unlike, judge
from turnedparts.errors import BadProgram, Handed, PartsError, Ring, TooLarge
from turnedparts.leaving import Lean, lean
from turnedparts.programs import is_program
from turnedparts.reading import read_module
from turnedparts.worlds import World
from turnedparts.writing import write_module

PASS = ("pass",)
ANY_WORLD = World({}, {}, [], None)


def in_order(block):
    for statement in block:
        yield statement
        for part in blocks(statement):
            yield from in_order(part)


def without(block, number):
    """A block without a statement; written again for tests, on lists."""
    rows = []
    for statement in block:
        size = count(statement)
        if 0 < number < size:
            rows.append(inner_without(statement, number - 1))
        elif number != 0:
            rows.append(statement)
        number -= size
    return tuple(rows)


def inner_without(statement, number):
    parts = [list(part) if isinstance(part, tuple) else part for part in statement]
    if statement[0] == "try":
        spots = [(parts, 1, True)]
        parts[2] = [list(row) for row in parts[2]]
        spots += [(row, 2, True) for row in parts[2]] + [(parts, 3, not parts[2])]
    elif statement[0] == "if":
        spots = [(parts, 2, True), (parts, 3, False)]
    else:
        spots = [(parts, 3, True)]
    for row, at, is_needed in spots:
        size = sum(map(count, row[at]))
        if 0 <= number < size:
            row[at] = without(tuple(row[at]), number) or ((PASS,) if is_needed else ())
        number -= size
    if statement[0] == "try":
        parts[2] = tuple((kind, name, tuple(block)) for kind, name, block in parts[2])
    return tuple(tuple(part) if isinstance(part, list) else part for part in parts)


def verdict(one, other):
    if not is_program(other):
        return None
    try:
        return judge(one, other)
    except (Ring, Handed, TooLarge):
        return None


def slowly(program):
    """What lean returns, word by word as the document tells it."""
    left = dict(program)
    is_done = False
    while not is_done:
        is_done = True
        for module in sorted(left, reverse=True):
            for number in range(len(list(in_order(left[module]))) - 1, -1, -1):
                less = {**left, module: without(left[module], number)}
                if list(in_order(left[module]))[number] != PASS and isinstance(verdict(left, less), Alike):
                    left = less
                    is_done = False
    reasons = [verdict(left, {**left, module: without(left[module], number)}) for module in sorted(left)
               for number, statement in enumerate(in_order(left[module])) if statement != PASS]
    return Lean(left, reasons)


class Leaving(unittest.TestCase):
    maxDiff = None

    def lean(self, text, left, other=None, **modules):
        """See that of a text another one is left."""
        program = told(text, **modules)
        found = lean(program)
        self.assertEqual(write_module(found.program, "m"), left)
        if other is not None:
            self.assertEqual(found.program["n"], read_module(other))
        self.assertEqual(found, slowly(program))
        self.assertIs(found.shows(program), True)
        self.assertTrue(judge(program, found.program))
        return found

    def f(self, text, left, params="a, b"):
        front = f"def f({params}):\n"
        return self.lean(front + lines(text), front + lines(left))


def lines(text):
    return "".join(f"    {row}\n" for row in text.split("\n"))


class Taken(Leaving):
    def test_nothing(self):
        for text in ("see a", "return ?p(b)", "if a:\n    see b", "v = ?p(a)\nsee b\nreturn v", "yield a\nsee b", "try:\n    a()\nexcept any:\n    return a",
                     "for i in (a, b):\n    see i", "def i():\n    yield a\neach k in i():\n    see k"):
            self.f(text, text)

    def test_something(self):
        self.f("v = ?p(a)\nw = v\nsee a\nreturn v", "v = ?p(a)\nsee a\nreturn v")
        self.f("see a\nif b:\n    pass\nreturn a", "see a\nreturn a")
        self.f("return a\nsee b\nsee a", "return a")
        self.f("def i():\n    see a\nsee b", "see b")
        self.f("try:\n    see a\nfinally:\n    ?p(b)", "try:\n    see a\nfinally:\n    pass")
        self.f("try:\n    see a\nexcept any:\n    see b\nfinally:\n    ?p(b)", "try:\n    see a\nexcept any:\n    pass")

    def test_all_that_may_be(self):
        self.lean("x = none\n", "x = none\n")
        self.lean("_x = none\ndef _f():\n    see _x\n", "")
        self.lean("use n\nfrom n take y as _y\nclass _c:\n    pass\nx = none\n", "use n\nx = none\n", n="y = none\n")
        self.lean("use n\nx = none\n", "use n\nx = none\n", "", n="_y = none\n")
        self.lean("", "")

    def test_blocks_that_would_be_empty(self):
        self.f("return", "pass")
        self.f("?p(a)\n?p(b)", "pass")
        self.f("if a:\n    ?p(a)\nelse:\n    see b", "if a:\n    pass\nelse:\n    see b")
        self.f("if a:\n    see b\nelse:\n    ?p(a)", "if a:\n    see b")
        self.f("for i in (a, b):\n    ?p(i)\nreturn i", "for i in (a, b):\n    pass\nreturn i")
        self.f("def i():\n    return\nsee i()", "def i():\n    pass\nsee i()")
        self.f("each i in (lambda: a)():\n    see i", "each i in (lambda: a)():\n    pass")
        self.f("try:\n    see b\n    a()\nexcept any:\n    ?p(a)\nexcept bad:\n    return a", "try:\n    see b\nexcept any:\n    pass\nexcept bad:\n    pass")
        self.f("try:\n    a()\nexcept any:\n    ?p(a)\n    return b\nexcept bad:\n    return a", "try:\n    a()\nexcept any:\n    return b\nexcept bad:\n    pass")
        self.f("try:\n    a()\nexcept wrong:\n    ?p(a)\nsee b", "see b")
        self.f("try:\n    b.x\n    a()\n    see a\nexcept wrong:\n    see b", "try:\n    a()\nexcept wrong:\n    see b")
        self.f("try:\n    ?p(a)\nfinally:\n    see b", "try:\n    pass\nfinally:\n    see b")
        self.lean("class c:\n    def g(self):\n        raise wrong\n", "class c:\n    pass\n")
        self.lean("class c:\n    x = none\n", "class c:\n    pass\n")
        self.lean('class _c:\n    def enter(self):\n        pass\n    def leave(self, e):\n        see none\ndef f(a, b):\n    with _c():\n        ?p(a)\n',
                  'class _c:\n    def enter(self):\n        pass\n    def leave(self, e):\n        see none\ndef f(a, b):\n    with _c():\n        pass\n')

    def test_pass_stays(self):
        self.f("pass\nsee a\npass\npass", "pass\nsee a\npass\npass")
        self.f("if a:\n    pass\n    ?p(a)\n    pass\nelse:\n    pass\nsee b", "see b")
        self.f("if a:\n    see b\nelse:\n    pass", "if a:\n    see b\nelse:\n    pass")

    def test_the_last_one_first(self):
        # Either of the two may go, but not both.
        self.lean("def _g():\n    raise bad\ndef f():\n    _g()\n    raise bad\n", "def _g():\n    raise bad\ndef f():\n    _g()\n")
        self.lean("def f():\n    raise bad\n    _g()\ndef _g():\n    raise bad\n", "def f():\n    raise bad\n")
        self.lean("def f():\n    _g()\n    raise bad\ndef _g():\n    raise bad\n", "def f():\n    raise bad\n")
        self.f("try:\n    raise bad\nfinally:\n    return a\nsee b", "try:\n    pass\nfinally:\n    return a")

    def test_the_last_module_first(self):
        # In m the last statement that raises may go as long as that of n is there, and the other way round.
        text = "use n\ndef f():\n    n._g()\n    raise bad\n"
        self.lean(text, "use n\ndef f():\n    raise bad\n", "", n="def _g():\n    raise bad\n")
        program = {"m": told("", n="def _g():\n    raise bad\n")["n"], "n": told(text.replace("n", "m", 1).replace("n._g", "m._g"))["m"]}
        found = lean(program)
        self.assertEqual([write_module(found.program, name) for name in "mn"], ["def _g():\n    raise bad\n", "use m\ndef f():\n    m._g()\n"])
        self.assertEqual(found, slowly(program))

    def test_statements_that_can_go_together_alone(self):
        # The inner ones can't go alone, but all of the if can.
        self.f("v = a\nif b:\n    v = a\nelse:\n    v = a\nreturn v", "v = a\nreturn v")
        self.f('if a:\n    see b\nelse:\n    see b', 'if a:\n    see b\nelse:\n    see b')
        self.f("try:\n    raise bad\nexcept bad:\n    pass\nsee a", "see a")

    def test_a_second_turn(self):
        # What is used is taken away behind what uses it.
        self.f("v = a\nw = v\nx = w\nsee b", "see b")
        self.lean("def _g():\n    return none\ndef _h():\n    return _g()\ndef f(a):\n    v = _h()\n    return a\n", "def f(a):\n    return a\n")
        self.lean("def f(a):\n    v = _h()\n    return a\ndef _h():\n    return _g()\ndef _g():\n    return none\n", "def f(a):\n    return a\n")
        self.lean("def f(a):\n    return a\n_x = _y\n_y = _z\n_z = none\n", "def f(a):\n    return a\n")

    def test_classes(self):
        text = "class c:\n    x = none\n    y = x\n    def make(self, a):\n        self.a = a\n        self.b = a\n    def g(self):\n        see self.x\n        return self.a\n"
        self.lean("x = none\n" + text, "x = none\n" + text.replace("    y = x\n", "").replace("        self.b = a\n", ""))
        self.lean("class _b:\n    def h(self):\n        pass\nclass c:\n    def g(self):\n        pass\n", "class c:\n    def g(self):\n        pass\n")

    def test_by_chance(self):
        programs = [tame_program(seed) for seed in range(16)] + [program_by_chance(seed)[0] for seed in range(30)]
        many = 0
        for program in programs:
            if program is None or sum(count(row) for module in program for row in program[module]) > 90:
                continue
            try:
                found = lean(program)
            except PartsError:
                with self.assertRaises(PartsError):
                    judge(program, program)
                continue
            self.assertEqual(found, slowly(program))
            self.assertTrue(found.shows(program))
            many += 1
        self.assertGreater(many, 12)


class Reasons(Leaving):
    def test_each_statement(self):
        found = self.f("v = ?p(a)\nif b:\n    see v\nelse:\n    pass\nreturn v", "v = ?p(a)\nif b:\n    see v\nelse:\n    pass\nreturn v", "a, b, /")
        self.assertEqual([type(reason) for reason in found.reasons], [Unlike, type(None), Unlike, Unlike, Unlike])
        self.assertEqual([(reason.use, reason.place) for reason in found.reasons if reason is not None],
                         [(call(2), 0), (call(2), 0), (call(2), 0), (call(2), 1)])

    def none(self, text, number, left=None):
        """See that there is no reason for a statement with a number, though there is a program without it."""
        program = told(text)
        found = self.lean(text, left or text)
        rows = [at for at, statement in enumerate(in_order(found.program["m"])) if statement != PASS]
        self.assertIsNone(found.reasons[rows.index(number)])
        self.assertTrue(is_program({"m": without(found.program["m"], number)}))
        self.assertTrue(found.shows(program))
        changed = Lean(found.program, found.reasons)
        changed.reasons[rows.index(number)] = Unlike(("read", "m", "f"), ANY_WORLD, 0)
        self.assertFalse(changed.shows(program))
        return found

    def test_none_where_there_is_no_program(self):
        found = self.f("v = a\nsee b\nv = ?p(v)\nreturn v", "v = a\nsee b\nv = ?p(v)\nreturn v")
        self.assertEqual([reason is None for reason in found.reasons], [False] * 5)
        found = self.f("v = a\nsee b\nreturn v", "v = a\nsee b\nreturn v")
        self.assertEqual([reason is None for reason in found.reasons], [False, True, False, False])

    def test_none_where_it_rings(self):
        text = 'def _h(a):\n    return a\ndef f(a, /):\n    v = f\n    see "t" if v else "u"\n    v = _h\n    return v(a)\n'
        found = self.none(text, 5)
        self.assertEqual([reason is None for reason in found.reasons], [True, False, False, False, False, True, False])

    def test_none_where_it_hands_out(self):
        self.none('def f(a, /):\n    v = f\n    see "t" if v else "u"\n    v = a\n    return v\n', 3)
        # Where only one way does so, and all else is as it was.
        text = 'def f(a, /):\n    v = f\n    see "t" if v else "u"\n    if a:\n        v = {}\n    else:\n        v = {}\n    return v\n'
        found = self.lean(text.format("none", "a"), text.format("none", "a"))
        self.assertEqual([reason is None for reason in found.reasons], [False, False, False, True, True, True, False])

    def test_none_where_it_is_too_large(self):
        items = ", ".join(f"?p{name}({part})" for part in "ab" for name in "abcde")
        self.none(f'def f(a, b, /):\n    b = a\n    v = "u"\n    for i in ({items}):\n        if i:\n            v = "t"\n    see v\n', 1)


class Evidence(unittest.TestCase):
    def setUp(self):
        self.program = told("use n\ndef f(a, b):\n    v = ?p(a)\n    w = v\n    see b\n    pass\n    return v\n_x = none\n", n="y = none\n")
        self.found = lean(self.program)

    def shows(self):
        return self.found.shows(self.program)

    def test_what_is_returned(self):
        self.assertIs(self.shows(), True)
        self.assertIsInstance(self.found.program, dict)
        self.assertIsInstance(self.found.reasons, list)
        self.assertEqual(self.found.program["m"], told("use n\ndef f(a, b):\n    v = ?p(a)\n    see b\n    pass\n    return v\n", n="")["m"])
        # That of the use, of f, its three statements, and of y.
        self.assertEqual([reason is None for reason in self.found.reasons], [False, False, True, False, False, False])

    def test_other_programs(self):
        kept = self.found.program
        for other in (self.program, {"m": kept["m"]}, {**kept, "n": ()}, {**kept, "m": kept["m"][:1]}, {}, {**kept, "o": ()}):
            self.found.program = other
            self.assertIs(self.shows(), False)
        self.found.program = dict(reversed(list(kept.items())))
        self.assertIs(self.shows(), True)

    def test_other_reasons(self):
        kept = list(self.found.reasons)
        use, world, place = kept[3].use, kept[3].world, kept[3].place
        for rows in ([], kept[:-1], [*kept, None], [*kept, kept[-1]], list(reversed(kept)), [None] * 6,
                     *([*kept[:at], None, *kept[at + 1:]] for at in (0, 1, 3, 4, 5)), [*kept[:2], kept[1], *kept[3:]],
                     [*kept[:3], Unlike(use, world, place + 1), *kept[4:]], [*kept[:3], Unlike(("read", "m", "f"), world, place), *kept[4:]],
                     [*kept[:3], kept[4], *kept[4:]]):
            self.found.reasons = rows
            self.assertIs(self.shows(), False)
        # Another Unlike of the same two programs is as good.
        self.found.reasons = [*kept[:3], Unlike(call(2), World({"0": 3, "1": 4}, {}, [], 5), 0), *kept[4:]]
        self.assertIs(self.shows(), True)
        self.found.reasons[3].place = 1
        self.assertIs(self.shows(), False)

    def test_for_other_programs(self):
        for text in ("use n\ndef f(a, b):\n    v = ?p(a)\n    see b\n    return v\n", "use n\ndef f(a, b):\n    v = ?q(a)\n    see b\n    pass\n    return v\n", "use n\n", ""):
            self.assertIs(self.found.shows(told(text, n="y = none\n")), False)
        self.assertIs(self.found.shows(self.found.program), True)
        self.assertIs(self.found.shows(told("use n\ndef f(a, b):\n    v = ?p(a)\n    see b\n    pass\n    return v\n_k = none\n", n="y = none\n_z = y\n")), True)

    def test_a_reason_in_whose_world_it_rings(self):
        # Without the let of none the way of yes sees another text, and on the way of no f calls itself.
        program = told('def f(a, /):\n    v = f\n    see "t" if v else none\n    v = none\n    if a:\n        see "t" if v else "u"\n    else:\n'
                       '        try:\n            v(a)\n        except wrong:\n            see none\n')
        found = lean(program)
        self.assertEqual(found.program, program)
        self.assertEqual((found.reasons[3].world.truths, found.reasons[3].place), ([1], 1))
        for truths, is_shown in (([0], True), ([], False)):
            found.reasons[3] = Unlike(call(1), World({}, {}, truths, None), 1)
            self.assertIs(found.shows(program), is_shown)

    def test_a_reason_in_whose_world_it_hands_out(self):
        program = told('def f(a, /):\n    v = f\n    see "t" if v else none\n    v = none\n    if a:\n        see "t" if v else "u"\n    else:\n'
                       '        see v\n')
        found = lean(program)
        self.assertEqual(found.program, program)
        for truths, is_shown in (([0], True), ([], False)):
            found.reasons[3] = Unlike(call(1), World({}, {}, truths, None), 1)
            self.assertIs(found.shows(program), is_shown)

    def test_errors(self):
        for ask in (lean, self.found.shows, Lean({"m": ()}, []).shows):
            for thing in (None, {}, {"m": []}):
                with self.assertRaises(BadProgram):
                    ask(thing)
            with self.assertRaises(Ring):
                ask(told("def f(a, /):\n    f(a)\ndef g():\n    see g\n"))
            with self.assertRaises(Handed):
                ask(told("def f(a, /):\n    see f\ndef g():\n    g()\n"))
            with self.assertRaises(TooLarge):
                ask(told("def f(a, b, c, d, e, g, h, i, j):\n    f()\n"))
            rows = "".join(f"    if ?p(a{', none' * at}):\n        see a\n" for at in range(9))
            with self.assertRaises(TooLarge):
                ask(told(f"def f(a):\n{rows}"))

    def test_equal(self):
        self.assertEqual(self.found, lean(copy.deepcopy(self.program)))
        self.assertEqual(self.found, Lean(self.found.program, self.found.reasons))
        for other in (Lean(self.program, self.found.reasons), Lean(self.found.program, []), Alike({}), None, self.found.program,
                      Lean(self.found.program, [None, *self.found.reasons[1:]])):
            self.assertNotEqual(self.found, other)

    def test_nothing_is_kept(self):
        kept = copy.deepcopy(self.program)
        order = list(self.program)
        lean(self.program).shows(self.program)
        self.assertEqual(self.program, kept)
        self.assertEqual(list(self.program), order)
        reasons, left = list(self.found.reasons), dict(self.found.program)
        made = Lean(left, reasons)
        reasons[0].world.inputs["0"] = 55
        reasons[1].place = 77
        reasons.clear()
        left.clear()
        fresh = lean(self.program)
        self.assertEqual(made, fresh)
        self.assertIs(made.shows(self.program), True)
        fresh.program.clear()
        fresh.reasons.clear()
        self.assertEqual(lean(self.program), made)


if __name__ == "__main__":
    unittest.main()
