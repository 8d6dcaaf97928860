"""[10] Tellings: kinds raised, silence, inputs that matter, statements never done."""

import unittest

import plain
from helping import call, told
from model import Model, blocks, count
from tame import tame_program
from turnedparts.alikes import judge
from turnedparts.errors import BadProgram, BadUse, Handed, PartsError, Ring, TooLarge
from turnedparts.outside import uses
from turnedparts.tellings import hangs_on, is_silent, kinds_raised, never_done

BY_USE = (kinds_raised, is_silent, hangs_on)


def lines(text):
    return "".join(f"    {row}\n" for row in text.split("\n"))


def f(text, params="a, b, /"):
    return told(f"def f({params}):\n{lines(text)}")


class Kinds(unittest.TestCase):
    def kinds(self, text, found, use=None):
        self.assertEqual(kinds_raised(f(text), use or call(2)), found, text)

    def test_kinds(self):
        self.kinds("see a", [])
        self.kinds("raise bad", ["bad"])
        self.kinds("raise any a", ["any"])
        self.kinds("raise wrong", ["wrong"])
        self.kinds("a()", ["wrong"])
        self.kinds("if a:\n    raise worse a\nif b:\n    raise bad\nv, w = a", ["bad", "worse", "wrong"])
        self.kinds("if a:\n    raise bad\nraise bad b", ["bad"])

    def test_what_a_condition_decides(self):
        self.kinds("if a:\n    if a:\n        return\n    raise bad", [])
        self.kinds("if ():\n    raise bad", [])
        self.kinds("if a:\n    if b:\n        return\n    raise bad", ["bad"])

    def test_handlers_and_finals(self):
        self.kinds("try:\n    raise bad\nexcept bad:\n    pass", [])
        self.kinds("try:\n    raise bad\nexcept any:\n    raise worse", ["worse"])
        self.kinds("try:\n    raise bad\nexcept worse:\n    pass", ["bad"])
        self.kinds("try:\n    raise bad\nfinally:\n    if a:\n        return", ["bad"])
        self.kinds("try:\n    raise bad\nfinally:\n    if a:\n        raise worse", ["bad", "worse"])
        self.kinds("try:\n    raise any\nexcept bad:\n    pass", ["any"])

    def test_generators(self):
        self.kinds("yield a\nraise bad", ["bad"])
        self.kinds("try:\n    yield a\nfinally:\n    raise bad", ["bad"])
        # It is closed: no handler takes this, and what stands behind is not done.
        self.kinds("try:\n    yield a\n    yield b\nexcept any:\n    raise bad", [])
        self.kinds("yield a\ntry:\n    raise bad\nexcept bad:\n    raise worse", ["worse"])
        self.kinds("try:\n    yield a\nfinally:\n    yield b", ["wrong"])

    def test_what_is_not_there(self):
        self.kinds("pass", ["wrong"], call(1))
        self.kinds("pass", ["wrong"], ("read", "m", "g"))
        self.kinds("pass", [], ("read", "m", "f"))


class Silence(unittest.TestCase):
    def silent(self, text, found, params="a, b, /"):
        self.assertIs(is_silent(f(text, params), call(2)), found, text)

    def test_one_event(self):
        for text in ("pass", "return a", "raise bad a", "if a:\n    raise bad\nreturn b", "a()", "for i in (a, b):\n    ?p(i)",
                     "if ():\n    see a", "return a\nsee b", "if a:\n    return\nif a:\n    see b"):
            self.silent(text, True)

    def test_more_events(self):
        for text in ("see a", "if a:\n    see b", "see a\nraise bad", "yield a", "if b:\n    if a:\n        yield b", "return\nyield a",
                     "try:\n    raise bad\nfinally:\n    see a", "try:\n    a()\nexcept wrong:\n    see a"):
            self.silent(text, False)

    def test_reads_and_calls_that_do_not_fit(self):
        program = f("see a")
        self.assertIs(is_silent(program, ("read", "m", "f")), True)
        self.assertIs(is_silent(program, call(1)), True)


class Inputs(unittest.TestCase):
    def hangs(self, text, found, use=None, params="a, b, /"):
        self.assertEqual(hangs_on(f(text, params), use or call(2)), found, text)

    def test_what_is_seen(self):
        self.hangs("return a", ["0"])
        self.hangs("see (none, b)", ["1"])
        self.hangs("raise bad ?p(?q(a.x, (b,)))", ["0", "1"])
        self.hangs("yield b", ["1"])
        self.hangs("v = ?p(a)\nreturn ?q(b)", ["1"])
        self.hangs("pass", [])

    def test_conditions(self):
        self.hangs("if a:\n    return none", [])
        self.hangs('if a:\n    return "t"', ["0"])
        self.hangs('if ?p(a, b):\n    return "t"', ["0", "1"])
        self.hangs("if a:\n    see none\nelse:\n    see none", [])
        self.hangs('if a.x:\n    if b:\n        return "t"', ["0", "1"])
        self.hangs('if a:\n    if a:\n        return\n    see b', [])

    def test_one_branch_alone(self):
        self.hangs("if a:\n    return b\nreturn none", ["0", "1"])
        self.hangs('if ?p():\n    if b:\n        return "t"', ["1"])
        self.hangs('if ?p():\n    return "t" if a else none\nelse:\n    return "t" if b else none', ["0", "1"])
        # Neither input alone changes what is seen, as the other one is the same.
        self.hangs('if a:\n    return "t"\nif b:\n    return "t"\nreturn "t"', [])

    def test_with_another_value_for_this_one_alone(self):
        # What is asked of the input is not what decides.
        self.hangs('v = "t" if ?p(a) else "u"\nw = "t" if ?p(a) else "u"\nif b:\n    return v\nreturn w', ["0"])
        self.hangs('if a:\n    v = ?p()\nelse:\n    v = ?p()\nreturn v', [])
        self.hangs('if ?p(a):\n    if ?p(b):\n        return none\n    return none\nreturn none', [])
        self.hangs('if ?p():\n    if a:\n        return "t"\n    return "t"\nif b:\n    return none', [])

    def test_whether_outside_goes_on(self):
        self.hangs("yield none\nsee a", ["0"])
        self.hangs("yield none\nif a:\n    yield none", ["0"])
        self.hangs("yield none\nif a:\n    pass\nyield none", [])
        self.hangs("try:\n    yield none\nfinally:\n    if b:\n        see none", ["1"])
        self.hangs("if a:\n    yield none\n    yield none\nelse:\n    yield none\n    yield none", [])

    def test_order_of_names(self):
        program = told("def f(a, b, c, d, e, *, k, h):\n    return (a, b, c, d, e, k, h)\n")
        self.assertEqual(hangs_on(program, call(3, ("d", "e", "h", "k"))), ["0", "1", "2", "d", "e", "h", "k"])
        text = "class c:\n    def make(self, a, b, *, e):\n        self.x = {}\n    def g(self, a, b, *, e):\n        return {}\n"
        use = ("method", "m", "c", 1, ("b", "e"), "g", 1, ("b", "e"))
        for first, second, found in (("(a, b, e)", "(self.x, a, b, e)", ["0", "b", "e", ".0", ".b", ".e"]), ("(a, b)", "(self.x, e)", ["0", "b", ".e"]),
                                     ("(a, e)", "a", [".0"]), ("e", "b if self.x else none", ["e", ".b"])):
            self.assertEqual(hangs_on(told(text.format(first, second)), use), found)
        rows = "".join(f", p{name}" for name in "abcdefg")
        self.assertEqual(hangs_on(told(f"def f(pz{rows}, /):\n    return (pz{rows})\n"), call(8)), list("01234567"))

    def test_what_is_not_there(self):
        self.hangs("return a", [], call(1))
        self.hangs("return a", [], call(2, "a"))
        self.assertEqual(hangs_on(told("x = ?p()\n"), ("read", "m", "x")), [])
        self.assertEqual(hangs_on(told("class c:\n    def make(self, a, b):\n        see b\n"), ("method", "m", "c", 1, ("b",), "g", 1, ())), ["b"])


class Never(unittest.TestCase):
    def never(self, text, *numbers, **modules):
        self.assertEqual(never_done(told(text, **modules)), [("m", number) if isinstance(number, int) else number for number in numbers], text)

    def f(self, text, *numbers):
        self.never(f"def f(a, b, /):\n{lines(text)}", *numbers)

    def test_all_done(self):
        self.f("pass")
        self.f("if a:\n    see a\nelse:\n    pass\nreturn b")
        self.f("try:\n    if a:\n        raise bad\nexcept bad:\n    pass\nfinally:\n    pass")
        self.never("x = none\nclass c:\n    pass\nuse n\n", n="")

    def test_behind_what_leaves(self):
        self.f("return\nsee a\nif a:\n    pass", 2, 3, 4)
        self.f("raise bad\nsee a", 2)
        self.f("if a:\n    return\nelse:\n    raise bad\npass", 4)
        self.f("a()\nsee a", 2)

    def test_what_conditions_decide(self):
        self.f("if a:\n    if a:\n        pass\n    else:\n        see b", 4)
        self.f('if "t":\n    see a\nelse:\n    see b\n    pass', 3, 4)
        self.f("for i in ():\n    see i\n    if i:\n        pass", 2, 3, 4)
        self.f("for i in (a, b):\n    if i:\n        see i")
        self.f("if a:\n    v = a\nelse:\n    v = ()\nif v:\n    see a\nelse:\n    see b")

    def test_what_is_begun_is_done(self):
        self.f("v = a()\nsee a", 2)
        self.f("v, w = ()\n")
        self.f("each i in a:\n    pass", 2)
        self.f("with a:\n    pass", 2)

    def test_handlers(self):
        self.f("try:\n    raise bad\nexcept worse:\n    see a\nexcept bad:\n    pass\nexcept any:\n    see b", 3, 5)
        self.f("try:\n    see a\nexcept any:\n    see b\nfinally:\n    see a", 3)
        self.f("try:\n    return\nfinally:\n    see a\nsee b", 4)
        self.f("try:\n    raise bad\n    pass\nexcept any:\n    pass", 3)

    def test_inner_defs(self):
        self.f("def i():\n    nonlocal v\n    v = a\n    return v\nv = b\ni()")
        self.f("def i():\n    pass\n    def k():\n        pass\nsee a", 2, 3, 4)
        self.f("def i():\n    yield a\n    yield b\neach k in i():\n    return", 3)
        self.f("def i():\n    yield a\ni()", 2)
        self.f("return\nv = none\ndef i():\n    nonlocal v\n    v = a", 2, 3, 4, 5)

    def test_private_and_other_modules(self):
        self.never("def _g():\n    see none\n    pass\ndef f():\n    pass\n", 1, 2)
        self.never("use _n\ndef f():\n    _n.h()\n", ("_n", 3), _n="def h():\n    pass\ndef i():\n    pass\n")
        self.never("def f():\n    return\n    pass\n", 2, ("n", 1), n="def _h():\n    pass\n")

    def test_classes(self):
        self.never("class c:\n    x = none\n    def make(self, a):\n        self.a = a\n        if a:\n            pass\n    def _g(self):\n        pass\n    def g(self):\n        return\n        pass\n", 7, 10)
        self.never("class _b:\n    def g(self):\n        see none\n    def h(self):\n        see none\nclass c(_b):\n    def h(self):\n        see none\n", 4)
        # Without a method the making is not done either.
        self.never("class c:\n    def make(self):\n        pass\n", 2)
        self.never("class c:\n    def enter(self):\n        pass\n    def leave(self, e):\n        if e:\n            pass\n        see e\n")

    def test_generators(self):
        self.f("yield a\nsee a\nyield b\npass")
        self.f("try:\n    yield a\nexcept any:\n    see a\nfinally:\n    see b\npass", 3)
        self.f("yield a\ntry:\n    return\nfinally:\n    pass\nyield b", 5)


class Errors(unittest.TestCase):
    def test_no_program_and_no_use(self):
        bad, good = told("def f(a, b, c, d, e, g, h, i, j):\n    f()\n"), told("def f(a):\n    f(a)\n")
        for ask in BY_USE:
            for thing in (None, {}, {"m": []}):
                with self.assertRaises(BadProgram):
                    ask(thing, None)
            for use in (None, ("call", "m", "f", 1), ("call", "m", "f", True, ()), ("read", "m", "_f")):
                with self.assertRaises(BadUse):
                    ask(bad, use)
            with self.assertRaises(TooLarge):
                ask(bad, ("read", "m", "f"))
            with self.assertRaises(Ring):
                ask(good, call(1))
            with self.assertRaises(Handed):
                ask(told("def f(a):\n    if a:\n        see f\n    f(a)\n"), call(1))
        for thing in (None, {}, {"m": []}):
            with self.assertRaises(BadProgram):
                never_done(thing)
        with self.assertRaises(TooLarge):
            never_done(bad)

    def test_too_large_trees(self):
        rows = "".join(f"    if ?p(a{', none' * at}):\n        see a\n" for at in range(9))
        program = told(f"def f(a):\n{rows}")
        for ask in BY_USE:
            with self.assertRaises(TooLarge):
                ask(program, call(1))
            ask(program, ("read", "m", "f"))
        with self.assertRaises(TooLarge):
            never_done(program)

    def test_the_first_use_of_never_done(self):
        ring, handed = "def {}():\n    {}()\n", "def {}():\n    see {}\n"
        for first, second, error in ((ring, handed, Ring), (handed, ring, Handed)):
            with self.assertRaises(error):
                never_done(told(second.replace("{}", "g") + first.replace("{}", "f")))


class Tracing(Model):
    """The model, with what is done told to a set."""

    done = set()

    def block(self, block, env, number, gen):
        for statement in block:
            self.done.add((env.module, number))
            yield from getattr(self, "do_" + statement[0])(statement, env, number, gen)
            number += count(statement)


def in_functions(program):
    """The modules and numbers of the statements in functions."""
    def inner(block, number, is_in):
        for statement in block:
            if is_in:
                yield number
            at = number + 1
            for part in blocks(statement):
                yield from inner(part, at, is_in or statement[0] == "def")
                at += sum(map(count, part))
            number += count(statement)
    return [(module, number) for module in sorted(program) for number in inner(program[module], 0, False)]


class Chances(unittest.TestCase):
    """The same by the model, on all ways of plain trees begun anew."""

    def programs(self, seeds):
        for seed in seeds:
            program = tame_program(seed)
            try:
                judge(program, program)
            except PartsError:
                continue
            yield program

    def test_kinds_and_silence(self):
        for program in self.programs(range(30)):
            for use in uses(program):
                rows = [row[1] for row in plain.ways(program, use)]
                self.assertEqual(kinds_raised(program, use), sorted({row[1] for events in rows for row in events if row[0] == "raise"}))
                self.assertEqual(is_silent(program, use), all(len(events) == 1 for events in rows))

    def test_never_done(self):
        kept, plain.Model = plain.Model, Tracing
        try:
            for program in self.programs(range(30)):
                Tracing.done = set()
                for use in uses(program):
                    plain.ways(program, use)
                self.assertEqual(never_done(program), [row for row in in_functions(program) if row not in Tracing.done])
        finally:
            plain.Model = kept

    def test_hangs_on(self):
        found = []
        for program in self.programs(range(60)):
            for use in uses(program):
                if len(plain.ways(program, use)) <= 40:
                    rows = [name for name in names_of(use) if hangs(program, use, name)]
                    self.assertEqual(hangs_on(program, use), rows)
                    found.append((len(rows), len(names_of(use))))
        self.assertGreater(sum(row[0] for row in found), 300)
        self.assertGreater(sum(row[1] - row[0] for row in found), 300)


def names_of(use):
    if use[0] == "read":
        return []
    rows = [str(at) for at in range(use[3])] + list(use[4])
    return rows + ["." + str(at) for at in range(use[6])] + ["." + name for name in use[7]] if use[0] == "method" else rows


def renamed(told_part, name):
    if told_part == ("input", name):
        return ("input", "other")
    return tuple(renamed(part, name) for part in told_part) if isinstance(told_part, tuple) else told_part


class Renamed:
    """Choices for a program one of whose inputs is another one."""

    def __init__(self, choices, name):
        self.choices = choices
        self.name = name

    def __contains__(self, condition):
        return plain.chosen(self.choices, renamed(condition, self.name)) is not None

    def __getitem__(self, condition):
        return self.choices[renamed(condition, self.name)]


def hangs(program, use, name, choices=None):
    """Whether other events are seen on a way of the program and itself, one input a different one."""
    choices = choices or {}
    try:
        return plain.events(program, use, choices) != renamed(plain.events(program, use, Renamed(choices, name)), name)
    except plain.Asked as asked:
        return any(hangs(program, use, name, {**choices, asked.condition: answer}) for answer in (True, False))


if __name__ == "__main__":
    unittest.main()
