"""[12] Binding: what each name that stands in a program means."""

import unittest

from chance import program_by_chance
from helping import told
from places import part
from tame import tame_program
from turnedparts.binding import bindings
from turnedparts.bound import Names
from turnedparts.errors import BadProgram
from turnedparts.renaming import variables


def top(name, module="m"):
    return (module, (), name)


class Binding(unittest.TestCase):
    maxDiff = None

    def bound(self, text, **modules):
        """The dict from pairs of a module and a place to a pair of the string there and the variable."""
        program = told(text, **modules)
        found = bindings(program)
        self.assertEqual(found, sorted(found, key=lambda row: row[:2]))
        self.assertEqual(len(found), len({row[:2] for row in found}))
        for module, path, variable in found:
            self.assertIsInstance(part(program[module], path), str)
            self.assertTrue(variable is None or part(program[module], path) == variable[2])
        return {(module, path): variable for module, path, variable in found}

    def means(self, rows, text, **modules):
        """See what all names of module m mean: a list of pairs of a place and a variable."""
        found = self.bound(text, **modules)
        self.assertEqual([(path, variable) for (module, path), variable in found.items() if module == "m"], rows, text)

    def test_tops(self):
        self.means([((0, 1), top("n")), ((1, 2), top("y", "n")), ((1, 3), top("k")), ((2, 1), top("x")),
                    ((2, 2, 1, 0, 1), top("k")), ((2, 2, 1, 1, 1, 1), top("n")), ((2, 2, 1, 1, 2), top("y", "n")),
                    ((3, 1), top("c")), ((4, 1), top("d")), ((4, 2, 0, 1), top("c")), ((4, 2, 1, 1, 1), top("n")),
                    ((4, 2, 1, 2), None)],
                   "use n\nfrom n take y as k\nx = (k, n.y)\nclass c:\n    pass\nclass d(c, n.z):\n    pass\n", n="y = none\n")

    def test_parameters_and_defaults(self):
        f = ("m", (1,), "a")
        self.means([((0, 1), top("a")), ((1, 1), top("f")), ((1, 2, 0, 0), f), ((1, 2, 0, 2, 1), top("a")),
                    ((1, 2, 1, 0), ("m", (1,), "b")), ((1, 2, 1, 2, 1), top("a")), ((1, 3, 0, 1), ("m", (1,), "g")),
                    ((1, 3, 0, 2, 0, 0), ("m", (1, 3, 0), "a")), ((1, 3, 0, 2, 0, 2, 1), f), ((1, 3, 0, 3, 0, 1, 1), ("m", (1, 3, 0), "a")),
                    ((1, 3, 1, 1, 1), f)],
                   "a = none\ndef f(a=a, *, b=a):\n    def g(a=a):\n        return a\n    return a\n")

    def test_lambdas(self):
        inner = ("m", (0, 3, 0, 1), "a")
        self.means([((0, 1), top("f")), ((0, 2, 0, 0), ("m", (0,), "a")), ((0, 3, 0, 1, 1, 0, 0), inner), ((0, 3, 0, 1, 1, 0, 2, 1), ("m", (0,), "a")),
                    ((0, 3, 0, 1, 2, 1, 0, 1), inner), ((0, 3, 0, 1, 2, 1, 1, 1, 0, 0), ("m", (0, 3, 0, 1, 2, 1, 1), "b")),
                    ((0, 3, 0, 1, 2, 1, 1, 2, 2, 0, 1), inner), ((0, 3, 0, 1, 2, 1, 1, 2, 2, 1, 1), ("m", (0, 3, 0, 1, 2, 1, 1), "b"))],
                   "def f(a):\n    return lambda a=a: (a, lambda b: ?p(a, b))\n")

    def test_all_that_gives(self):
        text = ("def f():\n    x = y\n    y, z = x\n    for i in (x, i):\n        j = i\n    each e in j:\n        pass\n"
                "    try:\n        pass\n    except bad as b:\n        see b\n    except bad:\n        pass\n    finally:\n        with b as w:\n            see w\n"
                "    with b:\n        pass\n    if z:\n        raise bad w\n    else:\n        raise bad\n    return\n    yield e\n    b.enter(a=none)\n")
        found = self.bound(text)
        own = {variable[2] for (_, path), variable in found.items() if path != (0, 1)}
        self.assertEqual(own, set("xyzijebw"))
        self.assertTrue(all(variable[:2] == ("m", (0,)) for (_, path), variable in found.items() if path != (0, 1)))
        self.assertEqual([path[2:] for (_, path), variable in found.items() if variable[2] == "b"],
                         [(4, 2, 0, 1), (4, 2, 0, 2, 0, 1, 1), (4, 3, 0, 1, 1), (5, 1, 1), (9, 1, 1, 1, 1)])
        self.assertEqual([path[2:] for (_, path), variable in found.items() if variable[2] == "i"],
                         [(2, 1), (2, 2, 1, 1), (2, 3, 0, 2, 1)])
        self.assertEqual([path[2:] for (_, path), variable in found.items() if variable[2] == "w"],
                         [(4, 3, 0, 2), (4, 3, 0, 3, 0, 1, 1), (6, 2, 0, 2, 1)])
        self.assertEqual([path[2:] for (_, path), variable in found.items() if variable[2] == "y"], [(0, 2, 1), (1, 1, 0)])

    def test_nonlocal_and_inner_defs(self):
        x, y = ("m", (0,), "x"), ("m", (0, 3, 1), "y")
        self.means([((0, 1), top("f")), ((0, 2, 0, 0), x), ((0, 3, 0, 1, 1), ("m", (0,), "g")), ((0, 3, 1, 1), ("m", (0,), "g")),
                    ((0, 3, 1, 3, 0, 1), y), ((0, 3, 1, 3, 1, 1), ("m", (0, 3, 1), "h")),
                    ((0, 3, 1, 3, 1, 3, 0, 1, 0), x), ((0, 3, 1, 3, 1, 3, 0, 1, 1), y), ((0, 3, 1, 3, 1, 3, 1, 1), x),
                    ((0, 3, 1, 3, 1, 3, 2, 1), y), ((0, 3, 1, 3, 1, 3, 2, 2, 1), x)],
                   "def f(x):\n    see g\n    def g():\n        y = none\n        def h():\n            nonlocal x, y\n            x = none\n            y = x\n")

    def test_a_def_whose_name_is_nonlocal(self):
        f = ("m", (0,), "x")
        self.means([((0, 1), top("f")), ((0, 3, 0, 1), f), ((0, 3, 1, 1), ("m", (0,), "g")), ((0, 3, 1, 3, 0, 1, 0), f),
                    ((0, 3, 1, 3, 1, 1), f), ((0, 3, 1, 3, 1, 3, 0, 1, 1), f)],
                   "def f():\n    x = none\n    def g():\n        nonlocal x\n        def x():\n            see x\n")

    def test_classes(self):
        make, low = (2, 3, 1), (2, 3, 3)
        self.means([((0, 1), top("x")), ((1, 1), top("y")), ((2, 1), top("c")),
                    ((2, 3, 0, 2, 1, 0, 1), top("x")), ((2, 3, 0, 2, 1, 1, 1), top("y")), ((2, 3, 1, 2, 0, 0), ("m", make, "self")),
                    ((2, 3, 1, 2, 1, 0), ("m", make, "x")), ((2, 3, 1, 2, 1, 2, 1), top("x")), ((2, 3, 1, 3, 0, 1, 1), ("m", make, "self")),
                    ((2, 3, 1, 3, 0, 3, 1), ("m", make, "x")), ((2, 3, 3, 3, 0, 1, 1), top("x")), ((2, 3, 3, 3, 1, 1), ("m", low, "low")),
                    ((2, 3, 3, 3, 1, 2, 1), top("y"))],
                   "x = none\ny = none\nclass c:\n    x = (x, y)\n    def make(self, x=x):\n        self.x = x\n    pass\n    def low():\n        see x\n        low = y\n")

    def test_takes(self):
        found = self.bound("from n take k as x\ndef f():\n    return x\n", n="from o take _y as k\nfrom m take x as z\n", o="_y = none\n")
        self.assertEqual(found[("m", (0, 2))], top("k", "n"))
        self.assertEqual(found[("m", (0, 3))], top("x"))
        self.assertEqual(found[("m", (1, 3, 0, 1, 1))], top("x"))
        self.assertEqual(found[("n", (0, 2))], top("_y", "o"))
        self.assertEqual(found[("n", (1, 2))], top("x", "m"))

    def test_attributes(self):
        text = ("use n\nfrom o take n as k\nx = (n.y, k.y, n.z, n.w)\ndef f(n, a):\n    return (n.y, k.z, k.y.z, a.y, (n).k, f.y, k.n, k.n.z, x.y)\n")
        found = self.bound(text, n="y = none\nz = none\nuse n\n", o="use n\n")
        attributes = {path: variable for (module, path), variable in found.items() if module == "m" and path[-1] == 2 and path[:1] != (1,)}
        self.assertEqual(attributes, {(2, 2, 1, 0, 2): top("y", "n"), (2, 2, 1, 1, 2): top("y", "n"), (2, 2, 1, 2, 2): top("z", "n"),
                                      (2, 2, 1, 3, 2): None, (3, 3, 0, 1, 1, 1, 2): top("z", "n"), (3, 3, 0, 1, 1, 2, 1, 2): top("y", "n"),
                                      (3, 3, 0, 1, 1, 6, 2): top("n", "n"), (3, 3, 0, 1, 1, 7, 1, 2): top("n", "n")})

    def named(self, text, **modules):
        """The variables of the names at calls, by their places; those that are loose, behind them."""
        program = told(text, **modules)
        found = {(module, path): variable for module, path, variable in bindings(program)}
        names = Names(program)
        self.assertFalse(set(names.loose) & set(found))
        return ([found[key] for key in sorted(names.spots) if names.spots[key].role == "named"],
                [part(program[module], path) for module, path in sorted(names.loose)])

    def test_names_at_calls_of_defs(self):
        rows = self.named("from n take k as g\nuse n\ndef f(a, /, b, *, d):\n    f(a=none, b=none, d=none, e=none)\n    g(x=none, y=none)\n    n.k(x=none)\n    n._h(x=f(b=none))\n",
                          n="from n take _h as k\ndef _h(x):\n    pass\n")
        f, h = ("m", (2,)), ("n", (1,))
        self.assertEqual(rows, ([(*f, "a"), (*f, "b"), (*f, "d"), (*h, "x"), (*h, "x"), (*h, "x"), (*f, "b")], ["e", "y"]))

    def test_names_at_calls_of_local_defs(self):
        for rest, bound in (("", True), ("    g = none\n", False), ("    def g(a):\n        pass\n", False), ("    for g in ():\n        pass\n", False),
                            ("    def h():\n        nonlocal g\n        g = none\n", False), ("    def h():\n        nonlocal g\n        see g\n", True),
                            ("    def h():\n        g = none\n", True)):
            found = self.named(f"def f():\n    def g(a):\n        pass\n    g(a=none)\n{rest}")
            self.assertEqual(found, ([("m", (0, 3, 0), "a")], []) if bound else ([], ["a"]), rest)
        self.assertEqual(self.named("def f(g):\n    def g(a):\n        pass\n    g(a=none)\n"), ([], ["a"]))
        self.assertEqual(self.named("def f():\n    def h():\n        nonlocal g\n        def g(a):\n            pass\n    g = none\n    g(a=none)\n"), ([], ["a"]))
        self.assertEqual(self.named("def f():\n    try:\n        pass\n    except bad as g:\n        g(a=none)\n"), ([], ["a"]))

    def test_names_at_calls_of_classes(self):
        text = ("class _b:\n    def make(me, x):\n        pass\nclass c:\n    let = none\n    def make(me, /, x):\n        pass\nclass _d(c):\n    def low(me, x):\n        pass\n"
                "def f():\n    c(x=none, me=none, y=none)\n    _d(x=none)\n    c(none).low(x=none)\n    _b(me=none)\n")
        make = ("m", (1, 3, 1))
        self.assertEqual(self.named(text), ([(*make, "x"), (*make, "me"), ("m", (0, 3, 0), "me")], ["y", "x", "x"]))

    def test_names_at_calls_that_are_loose(self):
        text = "use n\nx = none\ndef f(g):\n    x(a=none)\n    g(b=none)\n    (lambda d: none)(d=none)\n    (lambda f: f(e=none))(f)\n    n.w(i=none)\n    n.x(j=none)\n    (f if g else f)(g=none)\n    ?p(f(g=none))\n"
        self.assertEqual(self.named(text, n="x = none\n"), ([("m", (2,), "g")], ["a", "b", "d", "e", "i", "j", "g"]))
        self.assertEqual(self.named("from m take g as g\ndef f():\n    g(a=none)\n"), ([], ["a"]))

    def test_no_programs(self):
        for thing in ({}, {"m": []}, {"m": (("pass",),)}):
            for ask in (bindings, variables):
                with self.assertRaises(BadProgram):
                    ask(thing)

    def test_variables(self):
        program = told("use n\nfrom n take y as k\ndef f(a):\n    b = lambda d: d\n    def g(a, *, e):\n        nonlocal b\n        b = none\n        u, b = none\nclass c:\n    def get(me):\n        w = none\n    x = none\n",
                       n="y = none\n")
        self.assertEqual(variables(program), [
            ("m", (), "c"), ("m", (), "f"), ("m", (), "k"), ("m", (), "n"), ("m", (2,), "a"), ("m", (2,), "b"), ("m", (2,), "g"),
            ("m", (2, 3, 0, 2), "d"), ("m", (2, 3, 1), "a"), ("m", (2, 3, 1), "e"), ("m", (2, 3, 1), "u"), ("m", (3, 3, 0), "me"), ("m", (3, 3, 0), "w"),
            ("n", (), "y")])

    def test_by_chance(self):
        for seed in range(120):
            for program in (tame_program(seed), program_by_chance(seed)[0]):
                if program is None:
                    continue
                found = bindings(program)
                self.assertEqual(sorted({row[2] for row in found if row[2] is not None}), variables(program))
                names = {row[:2] for row in found}
                for module in program:
                    for path in used_names(program[module], ()):
                        self.assertIn((module, path), names)


def used_names(thing, path):
    """The paths of the names of all expressions that are names."""
    if not isinstance(thing, tuple):
        return []
    if len(thing) == 2 and thing[0] == "name" and isinstance(thing[1], str):
        return [(*path, 1)]
    return [row for at, inner in enumerate(thing) for row in used_names(inner, (*path, at))]


if __name__ == "__main__":
    unittest.main()
