"""[3] Texts that are read, and written."""

import random
import re
import unittest

from chance import program_by_chance
from turnedparts.errors import BadProgram, BadText
from turnedparts.programs import check_program
from turnedparts.reading import read_module
from turnedparts.shapes import is_expr
from turnedparts.writing import write_expr, write_module

A, B, T = ("name", "a"), ("name", "b"), ("text", "t")
PASS = (("pass",),)


def plain(*names):
    return tuple((name, "plain", None) for name in names)


def has_form(block):
    """Whether the statements of a block are of the forms of statements: what stands behind them is the first that is not."""
    try:
        check_program({"m": (*block, "no form")})
    except BadProgram as error:
        return error.number == sum(map(size, block))
    return False


def size(statement):
    blocks = {"def": [3], "class": [3], "if": [2, 3], "for": [3], "each": [3], "with": [3], "try": [1, 3]}.get(statement[0], [])
    return 1 + sum(size(row) for at in blocks for row in statement[at]) + sum(
        size(row) for handler in (statement[2] if statement[0] == "try" else ()) for row in handler[2])


LINES = [
    ("use m", ("use", "m")),
    ("from m take n as k", ("take", "m", "n", "k")),
    ("a = b", ("let", "a", B)),
    ("a, b = a", ("unpack", ("a", "b"), A)),
    ("a, b, c = a", ("unpack", ("a", "b", "c"), A)),
    ("a, = b", ("unpack", ("a",), B)),
    ("a.b = a", ("set", A, "b", A)),
    ("a.b.c = a", ("set", ("attr", A, "b"), "c", A)),
    ("?p().b = a", ("set", ("op", "p", ()), "b", A)),
    ("(a if b else a).b = a", ("set", ("choice", B, A, A), "b", A)),
    ("return", ("return", None)),
    ("return a", ("return", A)),
    ("yield a", ("yield", A)),
    ("raise bad", ("raise", "bad", None)),
    ("raise bad a", ("raise", "bad", A)),
    ("raise bad (a, b)", ("raise", "bad", ("tuple", (A, B)))),
    ("nonlocal a", ("nonlocal", ("a",))),
    ("nonlocal a, b", ("nonlocal", ("a", "b"))),
    ("see a", ("see", A)),
    ("a", ("do", A)),
    ("none", ("do", ("none",))),
    ("lambda: a", ("do", ("lambda", (), A))),
    ("pass", ("pass",)),
]

BLOCKS = [
    ("def f():\n    pass\n", ("def", "f", (), PASS)),
    ("def f(a, /, b=a, *, c):\n    pass\n",
     ("def", "f", (("a", "front", None), ("b", "plain", A), ("c", "only", None)), PASS)),
    ("class c:\n    pass\n", ("class", "c", (), PASS)),
    ("class c(a, a.b):\n    pass\n", ("class", "c", (A, ("attr", A, "b")), PASS)),
    ("if a:\n    pass\n", ("if", A, PASS, ())),
    ("if a:\n    pass\nelse:\n    a\n    b\n", ("if", A, PASS, (("do", A), ("do", B)))),
    ("for a in ():\n    pass\n", ("for", "a", (), PASS)),
    ("for a in (b):\n    pass\n", ("for", "a", (B,), PASS)),
    ("for a in (b, a):\n    pass\n", ("for", "a", (B, A), PASS)),
    ("each a in b:\n    pass\n", ("each", "a", B, PASS)),
    ("try:\n    pass\nfinally:\n    a\n", ("try", PASS, (), (("do", A),))),
    ("try:\n    pass\nexcept bad:\n    a\n", ("try", PASS, (("bad", None, (("do", A),)),), ())),
    ("try:\n    pass\nexcept bad as a:\n    pass\nexcept any:\n    a\nfinally:\n    b\n",
     ("try", PASS, (("bad", "a", PASS), ("any", None, (("do", A),))), (("do", B),))),
    ("with a:\n    pass\n", ("with", A, None, PASS)),
    ("with a as b:\n    pass\n", ("with", A, "b", PASS)),
    ("with lambda: a as b:\n    pass\n", ("with", ("lambda", (), A), "b", PASS)),
    ("if lambda: a:\n    pass\n", ("if", ("lambda", (), A), PASS, ())),
]

EXPRESSIONS = [
    ("none", ("none",)),
    ("a", A),
    ('"t"', T),
    ('""', ("text", "")),
    ('" a b "', ("text", " a b ")),
    ("()", ("tuple", ())),
    ("(a,)", ("tuple", (A,))),
    ("(a, b)", ("tuple", (A, B))),
    ("((a,), ())", ("tuple", (("tuple", (A,)), ("tuple", ())))),
    ("a.b", ("attr", A, "b")),
    ("a.b.c", ("attr", ("attr", A, "b"), "c")),
    ('"t".b', ("attr", T, "b")),
    ("none.b", ("attr", ("none",), "b")),
    ("().b", ("attr", ("tuple", ()), "b")),
    ("?p()", ("op", "p", ())),
    ("?p(a, b)", ("op", "p", (A, B))),
    ("a()", ("call", A, (), ())),
    ("a(b)", ("call", A, (B,), ())),
    ("a(b, a, c=a, d=b)", ("call", A, (B, A), (("c", A), ("d", B)))),
    ("a(b=b)", ("call", A, (), (("b", B),))),
    ("a()()", ("call", ("call", A, (), ()), (), ())),
    ("a().b(a)", ("call", ("attr", ("call", A, (), ()), "b"), (A,), ())),
    ("?p(a).b", ("attr", ("op", "p", (A,)), "b")),
    ("a if b else none", ("choice", B, A, ("none",))),
    ("a if b else a if a else b", ("choice", B, A, ("choice", A, A, B))),
    ("a if b else lambda: a", ("choice", B, A, ("lambda", (), A))),
    ("(a if b else a) if a else b", ("choice", A, ("choice", B, A, A), B)),
    ("a if (b if a else a) else b", ("choice", ("choice", A, B, A), A, B)),
    ("(lambda: a) if (lambda: b) else a", ("choice", ("lambda", (), B), ("lambda", (), A), A)),
    ("(a if b else a).b", ("attr", ("choice", B, A, A), "b")),
    ("(a if b else a)()", ("call", ("choice", B, A, A), (), ())),
    ("(lambda: a).b", ("attr", ("lambda", (), A), "b")),
    ("(lambda: a)()", ("call", ("lambda", (), A), (), ())),
    ("lambda: a if b else a", ("lambda", (), ("choice", B, A, A))),
    ("lambda a: a", ("lambda", plain("a"), A)),
    ("lambda a, b: a", ("lambda", plain("a", "b"), A)),
    ("lambda a, /: a", ("lambda", (("a", "front", None),), A)),
    ("lambda *, a: a", ("lambda", (("a", "only", None),), A)),
    ("lambda a, /, b, *, c=a, d: a",
     ("lambda", (("a", "front", None), ("b", "plain", None), ("c", "only", A), ("d", "only", None)), A)),
    ("lambda a=b: a", ("lambda", (("a", "plain", B),), A)),
    ("lambda a=a if b else a: a", ("lambda", (("a", "plain", ("choice", B, A, A)),), A)),
    ("lambda a=lambda: b: a", ("lambda", (("a", "plain", ("lambda", (), B)),), A)),
    ("lambda: lambda: a", ("lambda", (), ("lambda", (), A))),
    ("(lambda a, b: a, b)", ("tuple", (("lambda", plain("a", "b"), A), B))),
    ("a(lambda: a, b if a else b, k=lambda: a)",
     ("call", A, (("lambda", (), A), ("choice", A, B, B)), (("k", ("lambda", (), A)),))),
    ("?p((a,), (a if b else a, lambda: a))",
     ("op", "p", (("tuple", (A,)), ("tuple", (("choice", B, A, A), ("lambda", (), A)))))),
]


class Read(unittest.TestCase):
    def test_lines(self):
        for text, statement in LINES:
            self.assertEqual(read_module(text), (statement,), text)
            self.assertEqual(read_module(text + "\n"), (statement,), text)
            self.assertEqual(read_module(f"  \n#a\n{text}   \n    # b\n\n"), (statement,), text)

    def test_blocks(self):
        for text, statement in BLOCKS:
            self.assertEqual(read_module(text), (statement,), text)
            self.assertEqual(read_module(text[:-1]), (statement,), text)
            self.assertEqual(read_module(text + text), (statement, statement), text)
            inner = "if a:\n" + "".join(f"    {line}\n" for line in text.split("\n"))
            self.assertEqual(read_module(inner), (("if", A, (statement,), ()),), text)
            spread = "\n#\n".join(text.split("\n")) + "      #   \n "
            self.assertEqual(read_module(spread), (statement,), text)

    def test_expressions(self):
        for text, told in EXPRESSIONS:
            self.assertTrue(is_expr(told), text)
            for form, wrap in (("see {}", lambda e: ("see", e)), ("return {}", lambda e: ("return", e)),
                               ("see ({})", lambda e: ("see", e)), ("see ((({})))", lambda e: ("see", e)),
                               ("x = {}", lambda e: ("let", "x", e)), ("x, = {}", lambda e: ("unpack", ("x",), e)),
                               ("raise k {}", lambda e: ("raise", "k", e)), ("a.b = {}", lambda e: ("set", A, "b", e)),
                               ("?p({})", lambda e: ("do", ("op", "p", (e,)))),
                               ("a(k={})", lambda e: ("do", ("call", A, (), (("k", e),)))),
                               ("a if a else {}", lambda e: ("do", ("choice", A, A, e))),
                               ("({}) if a else a", lambda e: ("do", ("choice", A, e, A))),
                               ("lambda: {}", lambda e: ("do", ("lambda", (), e))),
                               ("({}).n", lambda e: ("do", ("attr", e, "n")))):
                line = form.format(text)
                self.assertEqual(read_module(line), (wrap(told),), line)

    def test_nothing(self):
        for text in ("", "\n", "   ", "\n\n  \n", "#", "  # pass", "#\n#\n"):
            self.assertEqual(read_module(text), (), repr(text))

    def test_blanks(self):
        self.assertEqual(read_module("a  =   b  "), (("let", "a", B),))
        self.assertEqual(read_module("a=b"), (("let", "a", B),))
        self.assertEqual(read_module("a,b=(a,b)"), (("unpack", ("a", "b"), ("tuple", (A, B))),))
        self.assertEqual(read_module('see"t"'), (("see", T),))
        self.assertEqual(read_module("see(a)"), (("see", A),))
        self.assertEqual(read_module("a . b ( a , k = b )"), (("do", ("call", ("attr", A, "b"), (A,), (("k", B),))),))
        self.assertEqual(read_module("? p ( a )"), (("do", ("op", "p", (A,))),))
        self.assertEqual(read_module("?p(a)if(b)else(a)"), (("do", ("choice", B, ("op", "p", (A,)), A)),))
        self.assertEqual(read_module("lambda a,*,b = a :a"),
                         (("do", ("lambda", (("a", "plain", None), ("b", "only", A)), A)),))
        self.assertEqual(read_module("def f ( a , / ) :  \n    pass"), (("def", "f", (("a", "front", None),), PASS),))
        self.assertEqual(read_module("for a in(a,):\n    pass"), (("for", "a", (A,), PASS),))

    def test_texts_that_look_like_words(self):
        for word in ("pass", "if", "else", "use", "none", "lambda", "try"):
            self.assertEqual(read_module(f'"{word}"'), (("do", ("text", word)),))
            self.assertEqual(read_module(f'see "{word}"'), (("see", ("text", word)),))
            self.assertEqual(read_module(f'if a:\n    pass\n"{word}"'), (("if", A, PASS, ()), ("do", ("text", word))))

    def test_commas_behind_the_last(self):
        for text, told in (("(a, b,)", ("tuple", (A, B))), ("?p(a,)", ("op", "p", (A,))),
                           ("a(b,)", ("call", A, (B,), ())), ("a(b, k=a,)", ("call", A, (B,), (("k", A),))),
                           ("lambda a,: a", ("lambda", plain("a"), A)), ("lambda *, a,: a", ("lambda", (("a", "only", None),), A))):
            self.assertEqual(read_module(text), (("do", told),), text)
        self.assertEqual(read_module("def f(a, b,):\n    pass"), (("def", "f", plain("a", "b"), PASS),))
        self.assertEqual(read_module("class c(a, b.a,):\n    pass"), (("class", "c", (A, ("attr", B, "a")), PASS),))
        self.assertEqual(read_module("for a in (a, b,):\n    pass"), (("for", "a", (A, B), PASS),))

    def test_brackets_of_bases(self):
        self.assertEqual(read_module("class c():\n    pass"), (("class", "c", (), PASS),))
        self.assertEqual(read_module("class c((a), (a.b), (a).b):\n    pass"),
                         (("class", "c", (A, ("attr", A, "b"), ("attr", A, "b")), PASS),))

    def test_what_is_read_need_not_be_of_a_program(self):
        deep = "a" + ".b" * 40
        self.assertFalse(is_expr(read_module(deep)[0][1]))
        self.assertEqual(read_module("see a\nyield b\nnonlocal a"), (("see", A), ("yield", B), ("nonlocal", ("a",))))
        self.assertEqual(read_module("class c:\n    make = none\n    c = c()"),
                         (("class", "c", (), (("let", "make", ("none",)), ("let", "c", ("call", ("name", "c"), (), ())))),))

    def test_parameters_behind_one_with_a_default(self):
        self.assertEqual(read_module("def f(a=b, b=a, /, c=a, *, d, e=a, g):\n    pass"),
                         (("def", "f", (("a", "front", B), ("b", "front", A), ("c", "plain", A), ("d", "only", None),
                                        ("e", "only", A), ("g", "only", None)), PASS),))
        self.assertEqual(read_module("lambda a, b=a, *, c: a"),
                         (("do", ("lambda", (("a", "plain", None), ("b", "plain", A), ("c", "only", None)), A)),))

    def test_what_is_read_has_the_forms_of_statements(self):
        # Lines changed by chance: they do not fit, or what is read is a tuple of statements.
        chance = random.Random(7)
        words = ["(", ")", ",", "=", ".", "?", ":", "*", "/", "if", "else", "lambda", "a", "none", "make", "in", '"x"', "abcdefghijklm",
                 "as", "(a, /, b=c)", "*, a", "b=a", "=a", " ", "e=none, ", "a=a, b"]
        texts = [write_module(program, name) for program in (program_by_chance(seed)[0] for seed in range(40)) if program for name in program]
        lines = sorted({line.strip() for text in texts for line in text.split("\n")} - {""})
        lines = [line for line in lines if not line.startswith(("else", "except", "finally", "try"))]
        many = 0
        for _ in range(20000):
            parts = re.findall(r'\w+|"[^"]*"|\s+|.', chance.choice(lines)) + [""]
            spot = chance.randrange(len(parts))
            parts[spot:spot + chance.randint(0, 1)] = [chance.choice(words + parts)]
            line = "".join(parts)
            try:
                told = read_module(line + "\n    pass" if line.endswith(":") else line)
            except BadText:
                continue
            many += 1
            self.assertTrue(has_form(told), line)
        self.assertGreater(many, 2000)

    def test_deep_blocks(self):
        rows = ["    " * depth + "if a:" for depth in range(11)] + ["    " * 11 + "pass"]
        told = PASS
        for _ in range(11):
            told = (("if", A, told, ()),)
        self.assertEqual(read_module("\n".join(rows)), told)

    def test_many_statements(self):
        self.assertEqual(len(read_module("pass\n" * 200)), 200)
        text = "if a:\n    pass\nelse:\n    pass\n" * 66 + "pass\npass\n"
        self.assertEqual(len(read_module(text)), 68)


class Written(unittest.TestCase):
    def write(self, statement):
        """The text of a statement, in a program that has what it needs."""
        kind = statement[0]
        if kind == "use":
            return write_module({"k": (statement,), statement[1]: ()}, "k")
        if kind == "take":
            other = (("let", statement[2], T),)
            return write_module({"k": (statement,), statement[1]: other}, "k")
        front = (("let", "a", T), ("let", "b", T))
        if kind == "class":
            return write_module({"m": (*front, statement)}, "m").removeprefix('a = "t"\nb = "t"\n')
        if kind == "nonlocal":
            return None
        if kind == "set":
            return None
        told = write_module({"m": (*front, ("def", "f", (), (statement,)))}, "m")
        rows = told.split("\n")
        self.assertEqual(rows[:3], ['a = "t"', 'b = "t"', "def f():"])
        return "\n".join(row.removeprefix("    ") for row in rows[3:])

    def test_lines_and_blocks(self):
        for text, statement in LINES + BLOCKS:
            told = self.write(statement)
            if told is not None:
                self.assertEqual(told, text if text.endswith("\n") else text + "\n")

    def test_nonlocal_and_set(self):
        text = ("class c:\n    def make(self, a):\n        self.b = a\n        def f():\n            nonlocal a\n            pass\n"
                "        def g():\n            d = none\n            e = none\n            def h():\n"
                "                nonlocal d, e\n                d, e = (e, d)\n")
        self.assertEqual(write_module({"m": read_module(text)}, "m"), text)

    def test_expressions(self):
        for text, told in EXPRESSIONS:
            self.assertEqual(write_expr(told), text)
            self.assertEqual(write_expr(("tuple", (told,))), f"({text},)")
            tight = f"({text})" if told[0] in ("choice", "lambda") else text
            self.assertEqual(write_expr(("attr", told, "n")), f"{tight}.n")
            self.assertEqual(write_expr(("call", told, (told,), (("k", told),))), f"{tight}({text}, k={text})")
            self.assertEqual(write_expr(("choice", told, told, told)), f"{tight} if {tight} else {text}")
            self.assertEqual(write_expr(("lambda", (("k", "plain", told),), told)), f"lambda k={text}: {text}")

    def test_class_without_bases(self):
        self.assertEqual(write_module({"m": (("class", "c", (), PASS),)}, "m"), "class c:\n    pass\n")

    def test_nothing(self):
        self.assertEqual(write_module({"m": ()}, "m"), "")

    def test_bad_programs(self):
        for program, module, told in (
                ({"m": []}, "m", ("m", None)), ({"m": (("pass",),)}, "m", ("m", 0)), (None, None, (None, None)),
                ({"m": (), "n": (("pass",),)}, "m", ("n", 0)), ({"m": (("pass",),)}, "k", ("m", 0)),
                ({"m": ()}, "n", ("n", None)), ({"m": ()}, None, (None, None)), ({"m": ()}, 3, (3, None)),
                ({"m": ()}, ["m"], (["m"], None))):
            with self.assertRaises(BadProgram) as caught:
                write_module(program, module)
            self.assertEqual((caught.exception.module, caught.exception.number), told)

    def test_no_expressions(self):
        for thing in (None, "a", ("pass",), ["none"], ("text", "A"), ("name", "as"), ("tuple", [A])):
            with self.assertRaises(BadProgram) as caught:
                write_expr(thing)
            self.assertEqual((caught.exception.module, caught.exception.number), (None, None))

    def test_read_back(self):
        found = 0
        for seed in range(120):
            program, _ = program_by_chance(seed)
            if program is not None:
                found += 1
                for module in program:
                    text = write_module(program, module)
                    self.assertEqual(read_module(text), program[module])
                    self.assertEqual(text, "".join(line + "\n" for line in text.split("\n")[:-1]))
                    check_program({**program, module: read_module(text)})
        self.assertGreater(found, 30)

    def test_deep_expressions_are_read_back(self):
        for wrap in (lambda e: ("choice", T, T, e), lambda e: ("choice", e, T, T), lambda e: ("choice", T, e, T),
                     lambda e: ("lambda", (), e), lambda e: ("lambda", (("k", "plain", e),), T),
                     lambda e: ("call", e, (), ()), lambda e: ("call", T, (e,), ()), lambda e: ("tuple", (e,)),
                     lambda e: ("attr", e, "n"), lambda e: ("attr", ("choice", T, T, T), "n")):
            told = T
            for _ in range(11):
                told = wrap(told)
            self.assertEqual(read_module(write_expr(told)), (("do", told),))


if __name__ == "__main__":
    unittest.main()
