"""[6] Uses: the list of them, what is seen of them, and what is none."""

import unittest

from helping import NONE, WRONG, Doing, back, bad, given, see, world
from turnedparts.errors import BadProgram, BadUse, PartsError, TooLarge
from turnedparts.outside import seen, uses
from turnedparts.reading import read_module


def program(text, **modules):
    return {"m": read_module(text), **{name: read_module(told) for name, told in modules.items()}}


def forms(params):
    """The forms of calls of a def f with some parameters."""
    return [use[3:] for use in uses(program(f"def f({params}):\n    pass\n")) if use[0] == "call"]


class Lists(unittest.TestCase):
    def test_forms_without_defaults(self):
        self.assertEqual(forms(""), [(0, ())])
        self.assertEqual(forms("a"), [(0, ("a",)), (1, ())])
        self.assertEqual(forms("a, /"), [(1, ())])
        self.assertEqual(forms("*, a"), [(0, ("a",))])
        self.assertEqual(forms("b, a"), [(0, ("a", "b")), (1, ("a",)), (2, ())])
        self.assertEqual(forms("b, /, a"), [(1, ("a",)), (2, ())])
        self.assertEqual(forms("a, /, b, *, c"), [(1, ("b", "c")), (2, ("c",))])
        self.assertEqual(forms("a, b, /"), [(2, ())])
        self.assertEqual(forms("*, b, a"), [(0, ("a", "b"))])
        self.assertEqual(forms("_a"), [(0, ("_a",)), (1, ())])

    def test_forms_with_defaults(self):
        self.assertEqual(forms("a=none"), [(0, ()), (0, ("a",)), (1, ())])
        self.assertEqual(forms("a=none, /"), [(0, ()), (1, ())])
        self.assertEqual(forms("*, a=none"), [(0, ()), (0, ("a",))])
        self.assertEqual(forms("a, b=none"), [(0, ("a",)), (0, ("a", "b")), (1, ()), (1, ("b",)), (2, ())])
        self.assertEqual(forms("a, b=none, /"), [(1, ()), (2, ())])
        self.assertEqual(forms("a, /, b=none, *, c, d=none"),
                         [(1, ("b", "c")), (1, ("b", "c", "d")), (1, ("c",)), (1, ("c", "d")), (2, ("c",)), (2, ("c", "d"))])
        self.assertEqual(forms("a=none, /, b=none"), [(0, ()), (0, ("b",)), (1, ()), (1, ("b",)), (2, ())])

    def test_forms_are_those_that_fit(self):
        # Tried: what is seen is wrong for all other forms of these numbers and names.
        for params in ("a, /, b=none, *, c", "a, b, c=none", "a=none, /, b=none, *, c=none", "*, a, b=none", "a, b, /, c"):
            found = set(forms(params))
            told = program(f"def f({params}):\n    return none\n")
            for many in range(5):
                for names in ((), ("a",), ("b",), ("c",), ("a", "b"), ("a", "c"), ("b", "c"), ("a", "b", "c"), ("d",)):
                    events = seen(told, ("call", "m", "f", many, names), world())
                    self.assertEqual(events, back() if (many, names) in found else [WRONG], (params, many, names))

    def test_kinds_of_names(self):
        text = "use n\nfrom n take g as h\nfrom n take d as e\nfrom n take o as p\nfrom n take x as y\nfrom m take z as z\nx = none\n"
        self.assertEqual(uses(program(text, n="use m\ndef g():\n    pass\nclass d:\n    def get(s):\n        pass\nuse o\nx = g\n", o="")), [
            ("call", "m", "h", 0, ()), ("call", "n", "g", 0, ()), ("method", "m", "e", 0, (), "get", 0, ()),
            ("method", "n", "d", 0, (), "get", 0, ()), ("read", "m", "e"), ("read", "m", "h"), ("read", "m", "n"), ("read", "m", "p"),
            ("read", "m", "x"), ("read", "m", "y"), ("read", "m", "z"), ("read", "n", "d"), ("read", "n", "g"), ("read", "n", "m"),
            ("read", "n", "o"), ("read", "n", "x")])

    def test_public_names(self):
        text = "def _f():\n    pass\ndef f():\n    pass\nclass _c:\n    def get(self):\n        pass\n_x = none\n"
        self.assertEqual(uses(program(text, _n="def f():\n    pass\n")), [("call", "m", "f", 0, ()), ("read", "m", "f")])
        self.assertEqual(uses(program("from _n take _g as g\n", _n="def _g():\n    pass\n")), [("call", "m", "g", 0, ()), ("read", "m", "g")])
        self.assertEqual(uses(program("def f_g():\n    pass\n")), [("call", "m", "f_g", 0, ()), ("read", "m", "f_g")])
        self.assertEqual(uses({"m": (), "_m": read_module("x = none\n")}), [])

    def test_methods(self):
        text = 'class c:\n    def make(self, a, *, b=none):\n        pass\n    def get(self, d):\n        pass\n    def _put(self):\n        pass\n    x = none\n    pass\n'
        self.assertEqual(uses(program(text)), [
            ("method", "m", "c", many, names, "get", more, others) for many, names in ((0, ("a",)), (0, ("a", "b")), (1, ()), (1, ("b",)))
            for more, others in ((0, ("d",)), (1, ()))] + [("read", "m", "c")])

    def test_methods_without_make(self):
        self.assertEqual(uses(program("class c:\n    def get(self):\n        pass\n    def at(self, a):\n        pass\n")), [
            ("method", "m", "c", 0, (), "at", 0, ("a",)), ("method", "m", "c", 0, (), "at", 1, ()),
            ("method", "m", "c", 0, (), "get", 0, ()), ("read", "m", "c")])
        self.assertEqual(uses(program("class c:\n    pass\n")), [("read", "m", "c")])
        self.assertEqual(uses(program("class c:\n    def make(self, a):\n        pass\n")), [("read", "m", "c")])

    def test_methods_of_bases(self):
        text = ('class _a:\n    def make(self, k):\n        pass\n    def get(self, x):\n        pass\n    def put(self):\n        pass\n    def low(self):\n        pass\n'
                'class c(_b, _a):\n    def put(self, y):\n        pass\nclass _b:\n    low = none\n    def up(self):\n        pass\n')
        self.assertEqual([use[3:] for use in uses(program(text)) if use[0] == "method"], [
            (many, names, *row) for many, names in ((0, ("k",)), (1, ()))
            for row in (("get", 0, ("x",)), ("get", 1, ()), ("put", 0, ("y",)), ("put", 1, ()), ("up", 0, ()))])

    def test_methods_that_a_bad_base_hides(self):
        text = "x = none\nclass _a:\n    def get(self):\n        pass\nclass c(x, _a):\n    def put(self):\n        pass\n"
        self.assertEqual(uses(program(text)), [("method", "m", "c", 0, (), "put", 0, ()), ("read", "m", "c"), ("read", "m", "x")])
        text = "class c(c):\n    def put(self):\n        pass\n"
        self.assertEqual(uses(program(text)), [("method", "m", "c", 0, (), "put", 0, ()), ("read", "m", "c")])

    def test_two_programs(self):
        one = program("def f(a):\n    pass\nx = none\n", n="def g():\n    pass\n")
        other = program("def f(b, c=none):\n    pass\nclass x:\n    def get(self):\n        pass\ndef h():\n    pass\n")
        found = uses(one, other)
        self.assertEqual(found, sorted(set(uses(one) + uses(other))))
        self.assertEqual(uses(other, one), found)
        self.assertEqual(uses(one, one), uses(one))
        self.assertIn(("method", "m", "x", 0, (), "get", 0, ()), found)
        self.assertIn(("call", "m", "f", 0, ("a",)), found)
        self.assertIn(("call", "m", "f", 2, ()), found)

    def test_bad_programs(self):
        good = program("")
        for arguments, told in ((([],), (None, None)), ((good, {"n": []}), ("n", None)), (({"a": 1}, {"b": 1}), ("a", None)),
                                ((good, {}), (None, None)), ((good, {"m": (("pass",),)}), ("m", 0))):
            with self.assertRaises(BadProgram) as caught:
                uses(*arguments)
            self.assertEqual((caught.exception.module, caught.exception.number), told)


class TooMany(unittest.TestCase):
    def large(self, *programs):
        with self.assertRaises(TooLarge):
            uses(*programs)

    def test_error(self):
        self.assertEqual(TooLarge.__bases__, (PartsError,))

    def test_parameters(self):
        for params in ("a, b, c, d, e, g, h, i", "*, a, b, c, d, e, g, h, i", "a, b, c, d, /, e, g, h, i"):
            self.assertLessEqual(len(forms(params)), 9)
            for more in (f"{params}, j", f"{params}, j=none"):
                self.large(program(f"def f({more}):\n    pass\n"))
                self.large(program(""), program(f"def f({more}):\n    pass\n"))
        nine = "a, b, c, d, e, g, h, i, j"
        self.large(program(f"class c:\n    def get({nine}):\n        pass\n"))
        self.large(program(f"class c:\n    def make({nine}):\n        pass\n    def get(a):\n        pass\n"))
        self.large(program("from _n take _f as g\n", _n=f"def _f({nine}):\n    pass\n"))

    def test_forms(self):
        # So many names that may be left out by place, 8 + 4 + 2 + 1, and each of the others by name or not.
        self.assertEqual(len(forms("a=none, b=none, c=none, *, d=none, e=none")), 15 * 4)
        self.large(program("def f(a=none, b=none, c=none, d=none, *, e=none):\n    pass\n"))
        self.large(program("from n take f as g\n", n="def f(a=none, b=none, c=none, d=none, *, e=none):\n    pass\n"))
        self.assertEqual(len(forms("*, a=none, b=none, c=none, d=none, e=none")), 32)
        self.large(program("def f(*, a=none, b=none, c=none, d=none, e=none, g=none):\n    pass\n"))
        self.assertEqual(len(forms("a, b=none, c=none, d=none, e=none")), 16 + 16 + 8 + 4 + 2 + 1)
        self.large(program("def f(a=none, b=none, c=none, d=none, e=none):\n    pass\n"))

    def test_forms_of_two_programs(self):
        one = "def f(*, a=none, b=none, c=none, d=none, e=none):\n    pass\n"
        other = "def f(*, g=none, h=none, i=none, j=none, k=none):\n    pass\n"
        self.assertEqual(len(uses(program(one))), 33)
        self.large(program(one), program(other))
        self.assertEqual(len(uses(program(one), program(one))), 33)
        sixty = program("def f(a=none, b=none, c=none, *, d=none, e=none):\n    pass\n")
        self.assertEqual(len(uses(sixty, program("def f(a=none):\n    pass\n"))), 61)
        self.large(sixty, program("def f(*, k):\n    pass\n"))

    def test_methods(self):
        text = "class c:\n    def make(self, *, a=none, b=none, c=none, d=none):\n        pass\n{}"
        method = "    def {}(self, *, a=none, b=none, c=none{}):\n        pass\n"
        rows = method.format("g", "")
        self.assertEqual(len(uses(program(text.format(rows)))), 16 * 8 + 1)
        self.large(program(text.format(rows + method.format("h", ""))))
        fifteen = rows + "    def h(self, a, /, *, b=none, c=none):\n        pass\n    def i(self, a, b, /):\n        pass\n    def j(self):\n        pass\n"
        fifteen += "    def k(self):\n        pass\n"
        self.assertEqual(len(uses(program(text.format(fifteen)))), 16 * 15 + 1)
        self.large(program(text.format(fifteen + "    def l(self):\n        pass\n")))

    def test_methods_of_two_programs(self):
        text = "class c:\n    def make(self, *, {}):\n        pass\n" + "".join(
            f"    def {name}(self, *, a=none, b=none, d=none):\n        pass\n" for name in ("g", "h"))
        one = program(text.format("a=none, b=none, d=none"))
        other = program(text.format("e=none, i=none, j=none"))
        self.assertEqual(len(uses(one)), 8 * 16 + 1)
        self.assertEqual(len(uses(one, one)), 8 * 16 + 1)
        # Those without arguments for make are the same in both.
        self.assertEqual(len(uses(one, program(text.format("e=none, i=none")))), 8 * 16 + 3 * 16 + 1)
        self.assertEqual(len(uses(one, other)), 240 + 1)
        self.large(one, program(text.format("e=none, i=none, j=none") + "    def p(self):\n        pass\n"))

    def test_one_more_method_use(self):
        text = "class c:\n" + "".join(f"    def {name}(self, *, {names}):\n        pass\n" for name, names in zip("ghijklmn", [
            "a=none, b=none, d=none, e=none, o=none"] * 7 + ["a=none, b=none, d=none, e=none"]))
        self.assertEqual(len(uses(program(text))), 7 * 32 + 16 + 1)
        self.large(program(text + "    def p(self):\n        pass\n"))

    def test_many_forms_at_once(self):
        text = "class c:\n    def make(self, {0}):\n        pass\n" + "".join(f"    def {n}(self, {{0}}):\n        pass\n" for n in "gh")
        self.large(program(text.format("a=none, b=none, c=none, d=none, e=none, i=none, j=none")))

    def test_private_ones_do_not_count(self):
        nine = "a, b, c, d, e, g, h, i, j"
        text = f"def _f({nine}):\n    pass\nclass c:\n    def _get({nine}):\n        pass\ndef k():\n    def l({nine}):\n        pass\n"
        self.assertEqual(len(uses(program(text, _n=f"def f({nine}):\n    pass\n"))), 3)


class Seen(Doing):
    def test_reads(self):
        text = "use n\nfrom n take g as h\nfrom n take d as e\nfrom n take k as o\nfrom n take x as y\ndef f():\n    pass\nclass c:\n    pass\nx = (?p(), y)\nz = none.z\n"
        n = 'use m\nuse k\ndef g():\n    pass\nclass d:\n    pass\nx = "t"\n'
        for name, told in (("n", ("module",)), ("o", ("module",)), ("f", ("function",)), ("h", ("function",)), ("c", ("class",)), ("e", ("class",))):
            self.assertEqual(self.seen(text, ("read", "m", name), n=n, k=""), [("back", told)])
        where = world(table={("p",): 7})
        self.assertEqual(self.seen(text, ("read", "m", "x"), where, n=n, k=""), back([7, "t"]))
        self.assertEqual(self.seen(text, ("read", "m", "y"), where, n=n, k=""), back("t"))
        self.assertEqual(self.seen(text, ("read", "m", "z"), where, n=n, k=""), [WRONG])
        self.assertEqual(self.seen("from n take x as x\n", ("read", "m", "x"), n="from m take x as x\n"), [WRONG])

    def test_what_is_not_there(self):
        text = "def f():\n    pass\nclass c:\n    x = none\n    def get(self):\n        pass\nx = none\n"
        for use in (("read", "n", "x"), ("read", "m", "y"), ("call", "n", "f", 0, ()), ("call", "m", "g", 0, ()), ("call", "m", "c", 0, ()),
                    ("call", "m", "x", 0, ()), ("method", "n", "c", 0, (), "get", 0, ()), ("method", "m", "d", 0, (), "get", 0, ()),
                    ("method", "m", "f", 0, (), "get", 0, ()), ("method", "m", "c", 0, (), "put", 0, ()), ("method", "m", "c", 0, (), "x", 0, ()),
                    ("method", "m", "c", 1, (), "get", 0, ()), ("method", "m", "c", 0, (), "get", 1, ()), ("call", "m", "f", 12, ()),
                    ("call", "m", "f", 0, ("a",))):
            self.assertEqual(self.seen(text, use), [WRONG], use)
        # A let that comes to a function or class is none.
        self.assertEqual(self.seen("y = f\n" + text, ("call", "m", "y", 0, ())), [WRONG])
        self.assertEqual(self.seen("y = c\n" + text, ("method", "m", "y", 0, (), "get", 0, ())), [WRONG])

    def test_inputs_of_calls(self):
        text = "def f(a, b, /, c, *, d, e=none):\n    return (a, b, c, d, e)\n"
        where = world({"0": 10, "1": 11, "2": 12, "c": 22, "d": 23, "e": 24, ".0": 90, ".d": 91})
        self.assertEqual(self.seen(text, ("call", "m", "f", 2, ("c", "d")), where), back([10, 11, 22, 23, None]))
        self.assertEqual(self.seen(text, ("call", "m", "f", 3, ("d", "e")), where), back([10, 11, 12, 23, 24]))
        self.assertEqual(self.seen("from n take f as g\n", ("call", "m", "g", 3, ("d",)), where, n=text), back([10, 11, 12, 23, None]))
        twelve = ", ".join("abcdefghijkl")
        self.assertEqual(self.seen(f"def f({twelve}):\n    return ({twelve})\n", ("call", "m", "f", 12, ())), back(list(range(1, 13))))

    def test_inputs_of_methods(self):
        text = "class c:\n    def make(self, a, *, b):\n        self.x = (a, b)\n    def get(self, a, /, *, b):\n        return (self.x, a, b)\n"
        where = world({"0": 10, "b": 11, ".0": 12, ".b": 13})
        use = ("method", "m", "c", 1, ("b",), "get", 1, ("b",))
        self.assertEqual(self.seen(text, use, where), back([[10, 11], 12, 13]))
        self.assertEqual(self.seen("from n take c as c\n", use, where, n=text), back([[10, 11], 12, 13]))

    def test_methods_of_the_class_whatever_the_fields(self):
        text = 'class b:\n    def get(self):\n        return "b"\nclass c(b):\n    def make(self):\n        self.get = "f"\n        see "make"\n'
        self.assertEqual(self.seen(text, ("method", "m", "c", 0, (), "get", 0, ())), see("make") + back("b"))
        text = 'class c:\n    def make(self):\n        self.get = "f"\n        see "make"\n'
        self.assertEqual(self.seen(text, ("method", "m", "c", 0, (), "get", 0, ())), see("make") + [WRONG])

    def test_makes_that_raise(self):
        text = 'class c:\n    def make(self):\n        see "make"\n        raise bad "t"\n    def get(self):\n        see "no"\n'
        self.assertEqual(self.seen(text, ("method", "m", "c", 0, (), "get", 0, ())), see("make") + bad("bad", "t"))

    def test_bad_uses(self):
        told = program("def f():\n    pass\n")
        for use in (None, (), "read", ["read", "m", "f"], ("read",), ("read", "m"), ("read", "m", "f", 0), ("read", "_m", "f"), ("read", "m", "_f"),
                    ("read", "m", "F"), ("read", "m", None), ("read", 1, "f"), ("reads", "m", "f"), (None, "m", "f"), ("call", "m", "f"),
                    ("call", "m", "f", 0), ("call", "m", "f", 0, (), 0), ("call", "m", "f", -1, ()), ("call", "m", "f", 13, ()),
                    ("call", "m", "f", True, ()), ("call", "m", "f", False, ()), ("call", "m", "f", "0", ()), ("call", "m", "f", None, ()),
                    ("call", "m", "f", 0, []), ("call", "m", "f", 0, ["a"]), ("call", "m", "f", 0, ("b", "a")), ("call", "m", "f", 0, ("a", "a")),
                    ("call", "m", "f", 0, ("A",)), ("call", "m", "f", 0, "a"), ("call", "m", "f", 0, None), ("call", "m", "f", 0, (1,)),
                    ("call", "_m", "f", 0, ()), ("call", "m", "_f", 0, ()), ("call", "m", "if", 0, ()),
                    ("method", "m", "c", 0, ()), ("method", "m", "c", 0, (), "get"), ("method", "m", "c", 0, (), "get", 0),
                    ("method", "m", "c", 0, (), "make", 0, ()), ("method", "m", "c", 0, (), "_get", 0, ()), ("method", "m", "c", 0, (), 5, 0, ()),
                    ("method", "m", "c", 0, (), "get", True, ()), ("method", "m", "c", 0, (), "get", 13, ()), ("method", "m", "c", 0, (), "get", 0, []),
                    ("method", "m", "c", 0, (), "get", 0, ("b", "a")), ("method", "m", "c", 13, (), "get", 0, ()), ("method", "m", "c", 0, ["a"], "get", 0, ()),
                    ("method", "_m", "c", 0, (), "get", 0, ()), ("method", "m", "_c", 0, (), "get", 0, ()), ("method", "m", "c", 0, (), "get", 0, (), 0)):
            with self.assertRaises(BadUse):
                seen(told, use, world())
            with self.assertRaises(BadProgram):
                seen({"m": (("pass",),)}, use, world())
        self.assertEqual(BadUse.__bases__, (PartsError,))
        # Names of parameters may be private.
        self.assertEqual(seen(program("def f(_a, b):\n    return b\n"), ("call", "m", "f", 0, ("_a", "b")), world({"b": 4})), back(4))


if __name__ == "__main__":
    unittest.main()
