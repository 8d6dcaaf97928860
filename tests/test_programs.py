"""[2] but for its last paragraph: the forms of programs, statements and expressions."""

import unittest

from turnedparts.errors import BadProgram, PartsError
from turnedparts.programs import check_program, is_program
from turnedparts.shapes import is_expr

A = ("name", "a")
T = ("text", "t")
PASS = (("pass",),)
PARAMS = (("a", "plain", None),)
LONG = "abcdefghijkl"
KEYWORDS = ("use from take as def class if else for in each return yield raise try except finally with nonlocal see "
            "pass lambda none").split()


def in_def(*statements):
    """A program in whose module m a def f with a parameter a has some statements."""
    return {"m": (("def", "f", PARAMS, tuple(statements)),)}


def nested(depth):
    told = T
    for _ in range(depth - 1):
        told = ("tuple", (told,))
    return told


def deep_block(depth):
    """A top whose statements are so deep within one another."""
    block = PASS
    for _ in range(depth - 2):
        block = (("if", T, block, ()),)
    return (("def", "f", (), block),)


class Case(unittest.TestCase):
    def assert_bad(self, program, module, number):
        with self.assertRaises(BadProgram) as caught:
            check_program(program)
        self.assertEqual((caught.exception.module, caught.exception.number), (module, number), program)
        self.assertIs(is_program(program), False)

    def assert_good(self, program):
        self.assertIsNone(check_program(program))
        self.assertIs(is_program(program), True)


class Wholes(Case):
    def test_modules(self):
        self.assert_good({"m": ()})
        self.assert_good({name: () for name in "abcdefgh"})
        for thing in (None, (), [], "m", 1, True, {}, {name: () for name in "abcdefghi"}, {1: ()}, {None: (), "m": ()},
                      {"M": ()}, {"": ()}, {"none": ()}, {LONG + "m": ()}, {("m",): ()}, {"m": (), "9": []}):
            self.assert_bad(thing, None, None)
        self.assert_good({LONG: ()})
        self.assert_good({"_": (), "a_b": ()})

    def test_modules_that_are_no_tuples(self):
        for thing in ([], None, "x", {}, 3, [("let", "x", T)]):
            self.assert_bad({"m": thing}, "m", None)
        self.assert_bad({"n": None, "m": []}, "m", None)
        self.assert_bad({"n": None, "m": (5,)}, "m", 0)
        self.assert_bad({"m": None, "a": (5,)}, "a", 0)

    def test_error_class(self):
        self.assertTrue(issubclass(BadProgram, PartsError))
        self.assertEqual(PartsError.__bases__, (ValueError,))
        self.assertEqual(BadProgram.__bases__, (PartsError,))

    def test_number_of_statements(self):
        many = tuple(("let", "x" + chr(97 + at // 26) + chr(97 + at % 26), T) for at in range(201))
        self.assert_good({"m": many[:200]})
        self.assert_bad({"m": many}, "m", 200)
        self.assert_good({"m": (("def", "f", (), PASS * 199),)})
        self.assert_bad({"m": (("def", "f", (), PASS * 200),)}, "m", 200)
        self.assert_bad({"m": (("def", "f", (), PASS * 198), ("let", "x", T), 7)}, "m", 200)
        self.assert_good({"m": (("def", "f", (), PASS * 199),), "n": (("def", "f", (), PASS * 199),)})

    def test_deep_statements(self):
        self.assert_good({"m": deep_block(12)})
        self.assert_bad({"m": deep_block(13)}, "m", 12)
        self.assert_bad({"m": deep_block(40)}, "m", 12)

    def test_deep_expressions(self):
        self.assert_good({"m": (("let", "x", nested(12)),)})
        self.assert_bad({"m": (("let", "x", nested(13)),)}, "m", 0)
        self.assertTrue(is_expr(nested(12)))
        self.assertFalse(is_expr(nested(13)))
        self.assertFalse(is_expr(nested(900)))
        for wrap in (lambda e: ("attr", e, "n"), lambda e: ("op", "n", (e,)), lambda e: ("call", e, (), ()),
                     lambda e: ("call", T, (e,), ()), lambda e: ("call", T, (), (("k", e),)),
                     lambda e: ("choice", e, T, T), lambda e: ("choice", T, e, T), lambda e: ("choice", T, T, e),
                     lambda e: ("lambda", (), e), lambda e: ("lambda", (("k", "only", e),), T)):
            self.assertTrue(is_expr(wrap(nested(11))))
            self.assertFalse(is_expr(wrap(nested(12))))


class Statements(Case):
    GOOD = [
        ("let", "x", T), ("unpack", ("x",), A), ("unpack", ("x", "y"), A), ("if", A, PASS, ()), ("if", A, PASS, PASS),
        ("for", "x", (), PASS), ("for", "x", (A, T), PASS), ("each", "x", A, PASS), ("return", None), ("return", A),
        ("yield", A), ("raise", "bad", None), ("raise", "bad", A), ("try", PASS, (), PASS),
        ("try", PASS, (("bad", None, PASS),), ()), ("try", PASS, (("bad", "x", PASS), ("any", None, PASS)), PASS),
        ("with", A, None, PASS), ("with", A, "x", PASS), ("see", A), ("do", A), ("pass",),
        ("def", "g", (), PASS), ("def", "g", (("x", "front", None), ("y", "plain", A), ("z", "only", None)), PASS),
    ]

    def test_each_statement(self):
        for statement in self.GOOD:
            self.assert_good(in_def(statement))
        self.assert_good({"m": (
            ("use", "n"), ("take", "n", "x", "y"), ("class", "c", (), PASS), ("let", "x", T), ("def", "f", (), PASS),
            ("class", "d", (("name", "c"), ("attr", ("name", "n"), "x")),
             (("def", "make", (("self", "plain", None),), (("set", ("name", "self"), "x", T),)), ("let", "y", T))),
        ), "n": (("let", "x", T),)})
        self.assert_good(in_def(("let", "x", A), ("def", "g", (), (("nonlocal", ("x",)), ("let", "x", T)))))

    def test_other_lengths_and_lists(self):
        for statement in self.GOOD:
            # In front of a statement that does not fit either: the first one tells the number.
            self.assert_bad(in_def(("pass",), statement[:-1], None), "m", 2)
            self.assert_bad(in_def(("pass",), (*statement, A), None), "m", 2)
            self.assert_bad(in_def(("pass",), list(statement), None), "m", 2)

    def test_no_statements(self):
        for thing in (None, (), "pass", ("go",), (1,), (("pass",),), ([],), 5, ("none",), ("name", "a"), ("pass", None),
                      ("PASS",), ("else",), ("except",)):
            self.assert_bad(in_def(("pass",), thing), "m", 2)
            self.assert_bad({"m": (thing,)}, "m", 0)

    def test_broken_parts(self):
        bad_params = (("x", "plain", None), ("x", "plain", None))
        for statement in (
                ("use", "N"), ("use", None), ("take", "n", "x", 1), ("take", "", "x", "y"), ("take", "n", "if", "y"),
                ("let", "X", T), ("let", None, T), ("let", "x", None), ("let", "x", "x"), ("let", "x", ("text",)),
                ("unpack", (), A), ("unpack", ["x"], A), ("unpack", ("x", "x"), A), ("unpack", ("x", 1), A),
                ("unpack", "xy", A), ("unpack", ("x",), None),
                ("set", A, "make", T), ("set", A, "", T), ("set", None, "x", T), ("set", A, "x", None),
                ("if", None, PASS, ()), ("if", A, (), PASS), ("if", A, list(PASS), ()), ("if", A, PASS, None),
                ("if", A, PASS, []), ("for", 1, (A,), PASS), ("for", "x", A, PASS), ("for", "x", [A], PASS),
                ("for", "x", (None,), PASS), ("for", "x", (A,), ()), ("for", "x", (A,), None),
                ("each", None, A, PASS), ("each", "x", (A,), PASS), ("each", "x", A, ()),
                ("return", "a"), ("return", ()), ("yield", None), ("raise", None, None), ("raise", "else", A),
                ("raise", "bad", "a"), ("try", (), (), PASS), ("try", PASS, (), ()), ("try", PASS, None, PASS),
                ("try", PASS, [], PASS), ("try", PASS, (("bad", None, ()),), PASS),
                ("try", PASS, (("bad", "", PASS),), PASS), ("try", PASS, ((None, None, PASS),), PASS),
                ("try", PASS, (("bad", None),), PASS), ("try", PASS, (["bad", None, PASS],), PASS),
                ("try", PASS, (("bad", None, PASS),), None),
                ("with", None, None, PASS), ("with", A, 1, PASS), ("with", A, None, ()),
                ("nonlocal", ()), ("nonlocal", "x"), ("nonlocal", ("x", "x")), ("nonlocal", ("as",)),
                ("see", None), ("do", None), ("def", "g", (), ()), ("def", "g", None, PASS), ("def", "in", (), PASS),
                ("def", "g", [], PASS), ("def", "g", bad_params, PASS), ("def", "g", ("x",), PASS),
                ("class", "c", (), ()), ("class", "c", None, PASS), ("class", "c", (T,), PASS),
                ("class", "c", (("attr", ("attr", A, "n"), "n"),), PASS), ("class", "c", (("op", "f", ()),), PASS),
                ("class", "c", ("a",), PASS), ("class", 3, (), PASS), ("class", "c", [], PASS)):
            self.assert_bad(in_def(("pass",), statement), "m", 2)
            self.assert_bad({"m": (statement,)}, "m", 0)

    def test_parameters(self):
        front, plain, only = ("x", "front", None), ("y", "plain", None), ("z", "only", None)
        front_t, plain_t, only_t = ("x", "front", T), ("y", "plain", T), ("z", "only", T)
        for params in ((), (front, plain, only), (front, plain_t, only), (front_t, plain_t, only), (front, plain, only_t),
                       (only_t, ("y", "only", None)), (front, ("y", "front", T)), (plain, ("x", "plain", T))):
            self.assert_good(in_def(("def", "g", params, PASS)))
            self.assertTrue(is_expr(("lambda", params, T)))
        for params in ((plain, front), (only, plain), (only, front), (front_t, plain), (plain_t, ("x", "plain", None)),
                       (("x", "other", None),), (("x", None, None),), (("x", "plain"),), (["x", "plain", None],),
                       (("x", "plain", "x"),), (("lambda", "plain", None),), (front, ("x", "only", None)), [plain], None,
                       (("x", "plain", ("name",)),), (("x", True, None),)):
            self.assert_bad(in_def(("def", "g", params, PASS)), "m", 1)
            self.assertFalse(is_expr(("lambda", params, T)))

    def test_numbers_are_told_in_order(self):
        bad = ("see", None)
        self.assert_bad(in_def(("if", A, (("pass",), bad), (bad,))), "m", 3)
        self.assert_bad(in_def(("if", A, PASS, (("pass",), bad))), "m", 4)
        self.assert_bad(in_def(("if", A, (bad,), None)), "m", 1)
        self.assert_bad(in_def(("try", PASS, (("bad", None, PASS), ("any", None, (bad,))), (bad,))), "m", 4)
        self.assert_bad(in_def(("try", PASS, (("bad", None, PASS),), (("pass",), bad))), "m", 5)
        for outer in (("for", "x", (), (bad,)), ("each", "x", A, (bad,)), ("with", A, None, (bad,)),
                      ("def", "g", (), (bad,)), ("class", "c", (), (bad,))):
            self.assert_bad(in_def(("pass",), outer, ("pass",)), "m", 3)

    def test_forms_come_before_the_rest(self):
        # In module a a name that is not there, in module b something of no form.
        self.assert_bad({"a": (("let", "x", A),), "b": (("let", "x", T), ("let", "y", None))}, "b", 1)
        self.assert_bad({"a": (("let", "x", None),), "b": (("let", "y", None),)}, "a", 0)
        self.assert_bad({"a": (("let", "x", A), ("let", "y", None))}, "a", 1)


class Names(Case):
    def test_names(self):
        for name in ("a", "z", "_", "a_b", "__", LONG, "make", "any", "wrong", "self"):
            self.assertTrue(is_expr(("name", name)), name)
        for name in ("", LONG + "m", "A", "a1", "a b", "a.b", "\u00e4", "a\n", None, 1, True, b"a", ("a",), *KEYWORDS):
            self.assertFalse(is_expr(("name", name)), name)
        self.assertEqual(len(KEYWORDS), 23)

    def test_texts(self):
        for text in ("", " ", "a b", LONG, " " * 12):
            self.assertTrue(is_expr(("text", text)), text)
        for text in (LONG + "m", " " * 13, "a_b", "A", "1", "a\n", "\u00e4", None, 1, b"a", ("a",)):
            self.assertFalse(is_expr(("text", text)), text)


class Expressions(Case):
    GOOD = [
        ("none",), A, T, ("tuple", ()), ("tuple", (A, T)), ("attr", A, "n"), ("op", "n", ()), ("op", "n", (A, T)),
        ("call", A, (), ()), ("call", A, (T, A), (("k", T), ("l", A))), ("choice", A, T, A), ("lambda", (), T),
        ("lambda", (("k", "plain", A),), ("name", "k")),
    ]

    def test_each_expression(self):
        for told in self.GOOD:
            self.assertIs(is_expr(told), True)
            self.assert_good(in_def(("see", told)))
            self.assertIs(is_expr(list(told)), False)
            self.assertIs(is_expr((*told, A)), False)
            self.assertIs(is_expr(told[:-1]), False)
            self.assert_bad(in_def(("pass",), ("see", list(told))), "m", 2)

    def test_no_expressions(self):
        for thing in (None, (), "none", [], 1, True, ("nothing",), (None,), (("none",),), ("tuple", [A]), ("tuple", A),
                      ("tuple", (None,)), ("attr", A, "make"), ("attr", A, "as"), ("attr", "a", "n"), ("op", "in", ()),
                      ("op", "n", [A]), ("op", "n", A), ("call", A, [A], ()), ("call", A, (), [("k", T)]),
                      ("call", A, (), (["k", T],)), ("call", A, (), (("k",),)), ("call", A, (), (("k", T), ("k", A))),
                      ("call", A, (), (("if", T),)), ("call", A, (), (("k", None),)), ("call", None, (), ()),
                      ("choice", A, T, None), ("lambda", (), None), ("lambda", (), ("yield", A)), ("pass",),
                      ("number", 1), ("input", "0")):
            self.assertIs(is_expr(thing), False, thing)
            self.assert_bad(in_def(("do", thing)), "m", 1)


if __name__ == "__main__":
    unittest.main()
