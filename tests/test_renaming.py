"""[13] Renames: fixed variables, names that catch places, and repairs."""

import random
import time
import unittest

from chance import program_by_chance
from helping import told
from places import alike, part
from tame import tame_program
from turnedparts.binding import bindings
from turnedparts.bound import Names
from turnedparts.errors import BadNames, BadProgram, Caught, Fixed, PartsError
from turnedparts.programs import is_program
from turnedparts.reading import read_module
from turnedparts.renaming import Repairs, renamed, repairs, variables
from turnedparts.writing import write_module

F = ("m", (0,))


class Renaming(unittest.TestCase):
    maxDiff = None

    def text(self, names, text, **modules):
        """The text of module m with new names."""
        program = told(text, **modules)
        late = renamed(program, names)
        self.assertIsNot(alike(program, late), False)
        return write_module(late, "m")

    def fixed(self, names, text, **modules):
        """The variable of Fixed."""
        program = told(text, **modules)
        for ask in (renamed, repairs):
            with self.assertRaises(Fixed) as caught:
                ask(program, names)
        self.assertIsInstance(caught.exception, PartsError)
        self.assertIs(Repairs(names, {}).shows(program, names), False)
        return caught.exception.variable

    def caught(self, names, text, **modules):
        """The place of Caught."""
        program = told(text, **modules)
        with self.assertRaises(Caught) as caught:
            renamed(program, names)
        self.assertIsInstance(caught.exception, PartsError)
        return (caught.exception.module, caught.exception.path)

    def test_a_rename(self):
        self.assertEqual(self.text({(*F, "a"): "x", (*F, "b"): "a"}, "def f(a, /):\n    b = a\n    return (lambda c: (a, b, c))(b)\n"),
                         "def f(x, /):\n    a = x\n    return (lambda c: (x, a, c))(a)\n")
        self.assertEqual(self.text({("m", (0, 3, 1, 1), "c"): "a"}, "def f(a, /):\n    b = a\n    return lambda c: (c, b)\n"),
                         "def f(a, /):\n    b = a\n    return lambda a: (a, b)\n")

    def test_no_names(self):
        program = told("def f(a):\n    return a\n")
        self.assertEqual(renamed(program, {}), program)
        found = repairs(program, {})
        self.assertEqual([found.names, found.places], [{}, {}])
        self.assertTrue(found.shows(program, {}))

    def test_the_old_name(self):
        self.assertEqual(self.text({(*F, "a"): "a"}, "def f(a, /):\n    return a\n"), "def f(a, /):\n    return a\n")
        self.assertEqual(self.fixed({(*F, "a"): "a"}, "def f(a):\n    return a\n"), (*F, "a"))

    def test_places_in_several_modules(self):
        program = told("use n\nfrom n take _x as _y\ndef f():\n    return (n._x, _y, _g(_k=n._x))\ndef _g(_k):\n    return _k\n",
                       n="_x = ?p()\nfrom m take _g as _h\ndef f():\n    return _h(_k=_x)\n", o="use n\ny = n._x\n")
        names = {("n", (), "_x"): "_z", ("m", (), "_y"): "_x", ("m", (), "_g"): "_k", ("m", (3,), "_k"): "b", ("n", (), "_h"): "_g"}
        late = renamed(program, names)
        self.assertEqual(late, told("use n\nfrom n take _z as _x\ndef f():\n    return (n._z, _x, _k(b=n._z))\ndef _k(b):\n    return b\n",
                                    n="_z = ?p()\nfrom m take _k as _g\ndef f():\n    return _g(b=_z)\n", o="use n\ny = n._z\n"))
        self.assertTrue(alike(program, late))

    def test_all_kinds_of_names(self):
        text = ("def f(a, /):\n    b, c = (a, a)\n    for d in (b,):\n        see d\n    each e in g():\n        see e\n    def g():\n        nonlocal b\n        b = none\n        yield b\n"
                "    try:\n        raise bad c\n    except bad as h:\n        see h\n    with c as i:\n        see i\n    return (lambda j, *, k=b: (j, k))(a, k=a)\n")
        names = {variable: "x" + variable[2] for variable in variables(told(text)) if variable[1] != () and variable[2] != "k"}
        late = self.text(names, text)
        self.assertEqual(late, "def f(xa, /):\n    xb, xc = (xa, xa)\n    for xd in (xb):\n        see xd\n    each xe in xg():\n        see xe\n    def xg():\n        nonlocal xb\n        xb = none\n"
                               "        yield xb\n    try:\n        raise bad xc\n    except bad as xh:\n        see xh\n    with xc as xi:\n        see xi\n    return (lambda xj, *, k=xb: (xj, k))(xa, k=xa)\n")

    def test_bad_names(self):
        program = told("def f(a, /):\n    return a\n")
        for names in (None, [], (), "a", [(*F, "a")], {(*F, "b"): "x"}, {("m", (1,), "a"): "x"}, {("n", (0,), "a"): "x"}, {(*F, "a"): "from"}, {(*F, "a"): "A"},
                      {(*F, "a"): None}, {(*F, "a"): ""}, {(*F, "a"): "abcdefghijklm"}, {"a": "x"}, {(False,): "x"}, {("m", (False,), "a"): "x"}, {None: "x"},
                      {(*F, "a"): ["x"]}, {("m", (), "f"): "g", (*F, "a"): 3}):
            for ask in (renamed, repairs):
                with self.assertRaises(BadNames):
                    ask(program, names)
        self.assertTrue(issubclass(BadNames, PartsError))

    def test_bad_programs(self):
        for ask in (renamed, repairs, Repairs({}, {}).shows):
            with self.assertRaises(BadProgram):
                ask({"m": []}, None)

    def test_fixed_tops(self):
        text = "use _n\nfrom _n take x as _k\nclass _c:\n    pass\nx = none\ndef f():\n    pass\n_y = none\n"
        for name in ("_n", "_c", "x", "f"):
            self.assertEqual(self.fixed({("m", (), name): "_z"}, text, _n="x = none\n"), ("m", (), name))
        self.assertEqual(self.fixed({("_n", (), "x"): "_z"}, text, _n="x = none\n"), ("_n", (), "x"))
        for name in ("_k", "_y"):
            self.text({("m", (), name): "_z"}, text, _n="x = none\n")

    def test_fixed_parameters(self):
        text = "def f(a, /, b, *, c):\n    def g(a, b):\n        pass\ndef _g(a, /, b, *, c):\n    pass\nclass _c:\n    def make(s, /, b, *, c):\n        pass\n    def low(s, b):\n        pass\nfrom m take _h as _k\ndef _h(b):\n    pass\n"
        free = [("m", (0,), "a"), ("m", (0, 3, 0), "a"), ("m", (0, 3, 0), "b"), *[("m", (1,), name) for name in "abc"], ("m", (2, 3, 0), "s"), ("m", (4,), "b")]
        held = [("m", (0,), "b"), ("m", (0,), "c"), ("m", (2, 3, 0), "b"), ("m", (2, 3, 0), "c"), ("m", (2, 3, 1), "s"), ("m", (2, 3, 1), "b")]
        for variable in free:
            self.text({variable: "z"}, text)
        for variable in held:
            self.assertEqual(self.fixed({variable: "z"}, text), variable)
        # Taken by a public name, the def is one that can be called from outside.
        self.assertEqual(self.fixed({("m", (4,), "b"): "z"}, text, n="from m take _k as k\n"), ("m", (4,), "b"))
        self.assertEqual(self.fixed({("m", (4,), "b"): "z"}, text, _n="from m take _h as k\n"), ("m", (4,), "b"))
        self.text({("m", (4,), "b"): "z"}, text, n="from m take _k as _k\n")

    def test_fixed_by_loose_names(self):
        text = "def f(g, /):\n    a = none\n    g(a=none)\n    return lambda a: a\n_a = none\n"
        for variable in (("m", (0,), "a"), ("m", (0, 3, 2, 1), "a")):
            self.assertEqual(self.fixed({variable: "z"}, text), variable)
        self.assertEqual(self.fixed({("m", (0,), "g"): "a"}, text), ("m", (0,), "g"))
        self.text({("m", (), "_a"): "_b"}, text)
        # A name of a top is none of a function.
        self.text({("m", (), "_b"): "_a"}, "def f(g, /):\n    g(_a=none)\n_b = none\n")
        self.assertEqual(self.fixed({("m", (0,), "b"): "a"}, "def f():\n    b = none\n", n="def f(g):\n    g(a=none)\n"), ("m", (0,), "b"))

    def test_names_that_are_refused(self):
        text = "_x = none\ndef f(a, /):\n    return a\n"
        self.assertEqual(self.fixed({("m", (), "_x"): "x"}, text), ("m", (), "_x"))
        self.assertEqual(self.fixed({("m", (1,), "a"): "b", ("m", (), "f"): "_f", ("m", (), "_x"): "x"}, text), ("m", (), "_x"))
        self.assertEqual(self.fixed({("m", (1,), "a"): "b", ("m", (), "f"): "_f", ("m", (), "_x"): "_x"}, text), ("m", (), "f"))
        self.text({("m", (1,), "a"): "_x"}, "_y = none\ndef f(a, /):\n    return a\n")

    def test_no_program_then(self):
        text = "def f(a, b, /):\n    c = a\n    return (b, c)\n_x = none\n_y = none\n"
        self.assertEqual(self.caught({(*F, "a"): "b"}, text), ("m", (0, 2, 0, 0)))
        self.assertEqual(self.caught({(*F, "b"): "a"}, text), ("m", (0, 2, 1, 0)))
        # Without either one's new name alone, there is none yet.
        self.assertEqual(self.caught({(*F, "a"): "z", (*F, "b"): "z"}, text), ("m", (0, 2, 0, 0)))
        self.assertEqual(self.caught({(*F, "a"): "z", (*F, "b"): "z", ("m", (), "_x"): "_y"}, text), ("m", (0, 2, 0, 0)))
        self.assertEqual(self.caught({(*F, "c"): "d", ("m", (), "_x"): "_y"}, text), ("m", (1, 1)))
        self.assertEqual(self.caught({(*F, "a"): "b", ("m", (), "_x"): "_y"}, text), ("m", (0, 2, 0, 0)))
        self.assertEqual(self.caught({(*F, "c"): "d", ("m", (), "_x"): "_y", ("m", (), "_y"): "_z"}, "def f(c, /):\n    c = c\n_x = none\n_y = none\n_z = none\n"),
                         ("m", (0, 2, 0, 0)))
        text = "def f():\n    x = none\n    y = none\n    def g(a):\n        nonlocal x\n        y = none\n"
        self.assertEqual(self.caught({(*F, "y"): "z", ("m", (0, 3, 2), "a"): "x"}, text), ("m", (0, 3, 2, 2, 0, 0)))
        self.assertEqual(self.caught({(*F, "y"): "z", (*F, "x"): "a"}, text), ("m", (0, 3, 0, 1)))
        text = "class c:\n    def make(s, /):\n        y = none\n        def h():\n            nonlocal y\n            y = s\n"
        self.assertEqual(self.caught({("m", (0, 3, 0), "y"): "s"}, text), ("m", (0, 3, 0, 3, 0, 1)))
        self.assertEqual(self.caught({("m", (0, 3, 0), "s"): "y"}, text), ("m", (0, 3, 0, 2, 0, 0)))

    def test_no_program_then_of_several_modules(self):
        modules = {"n": "_x = none\n_y = none\nuse m\nz = m._a\n"}
        self.assertEqual(self.caught({("n", (), "_x"): "_y"}, "from n take _x as _k\n_a = none\n", **modules), ("m", (0, 2)))
        self.assertEqual(self.caught({(*F, "b"): "n"}, "def f(a, /):\n    b = a\n    def g():\n        nonlocal b\n        n = b\n", n=""), ("m", (0, 3, 1, 3, 1, 1)))

    def test_other_loose_names(self):
        nothing = (None, ())
        self.assertEqual(self.caught({(*F, "h"): "g"}, "def f():\n    def g(a):\n        pass\n    h = none\n    g(a=none)\n"), nothing)
        self.assertEqual(self.caught({(*F, "x"): "_g"}, "def f(x, /):\n    _g(a=x)\ndef _g(a):\n    pass\n"), nothing)
        # The other way round: a name that was loose is so no more.
        text = "_x = none\ndef f():\n    def _g(b):\n        pass\n    _x(b=none)\n"
        self.assertEqual(self.caught({("m", (1,), "_g"): "_x"}, text), nothing)

    def test_another_variable(self):
        self.assertEqual(self.caught({(*F, "b"): "a"}, "def f():\n    b = none\n    return lambda a: (b, a)\n"), ("m", (0, 3, 1, 1, 2, 1, 0, 1)))
        self.assertEqual(self.caught({("m", (0, 3, 1, 1), "a"): "b"}, "def f():\n    b = none\n    return lambda a: (b, a)\n"), ("m", (0, 3, 1, 1, 2, 1, 0, 1)))
        self.assertEqual(self.caught({(*F, "a"): "_x"}, "def f(a, /):\n    return (a, _x)\n_x = none\n"), ("m", (0, 3, 0, 1, 1, 1, 1)))
        self.assertEqual(self.caught({("m", (), "_x"): "_a"}, "def f(_a, /):\n    return (_a, _x)\n_x = none\n"), ("m", (0, 3, 0, 1, 1, 1, 1)))
        self.assertEqual(self.caught({(*F, "a"): "g"}, "def f(a, /):\n    return g.x\nuse g\n", g="x = none\n"), ("m", (0, 3, 0, 1, 1, 1)))

    def test_one_and_none_before(self):
        self.assertEqual(self.caught({("n", (), "_x"): "_y"}, "use n\ndef f():\n    return (n._x, n._y)\n", n="_x = none\n"), ("m", (1, 3, 0, 1, 1, 1, 2)))
        self.assertEqual(self.caught({("n", (), "_x"): "_y"}, "use n\ndef f():\n    return (n._y, n._x)\n", n="_x = none\n"), ("m", (1, 3, 0, 1, 1, 0, 2)))

    def test_the_same_variable(self):
        text = "def f(a, /):\n    b = a\n    return b\n"
        self.assertEqual(self.caught({(*F, "a"): "b"}, text), ("m", (0, 3, 0, 1)))
        self.assertEqual(self.caught({(*F, "b"): "a"}, text), ("m", (0, 3, 0, 1)))
        self.assertEqual(self.caught({(*F, "b"): "c", (*F, "a"): "c"}, text), ("m", (0, 3, 0, 1)))
        self.text({(*F, "b"): "a", (*F, "a"): "b"}, text)

    def test_arguments_stay_as_they_are(self):
        program = told("def f(a, /):\n    b = a\n    return b\n")
        names = {(*F, "a"): "c"}
        late = renamed(program, names)
        late["m"] = ()
        late["n"] = ()
        self.assertEqual([program, names], [told("def f(a, /):\n    b = a\n    return b\n"), {(*F, "a"): "c"}])
        self.assertEqual(list(renamed(program, names)), ["m"])


class Repairing(unittest.TestCase):
    maxDiff = None

    def repaired(self, places, names, text, **modules):
        """See which further variables have new names, with the places that they catch."""
        program = told(text, **modules)
        found = repairs(program, names)
        self.assertEqual(found.places, places)
        self.assertEqual(set(found.names), {*names, *places})
        self.assertEqual({variable: found.names[variable] for variable in names}, names)
        self.assertIs(found.shows(program, names), True)
        self.assertEqual(found, repairs(program, dict(reversed(names.items()))))
        late = renamed(program, found.names)
        self.assertIsNot(alike(program, late), False)
        return program, found

    def test_none(self):
        self.repaired({}, {(*F, "a"): "c"}, "def f(a, /):\n    b = a\n    return b\n")

    def test_one(self):
        self.repaired({(*F, "b"): ("m", (0, 3, 0, 1))}, {(*F, "a"): "b"}, "def f(a, /):\n    b = a\n    return b\n")
        self.repaired({(*F, "b"): ("m", (0, 2, 0, 0))}, {(*F, "a"): "b"}, "def f(a, b, /):\n    return a\n")
        self.repaired({("m", (), "_x"): ("m", (0, 3, 0, 1, 1, 1, 1))}, {(*F, "a"): "_x"}, "def f(a, /):\n    return (a, _x)\n_x = none\n")
        self.repaired({(*F, "x"): (None, ())}, {("m", (0, 3, 0), "a"): "a", (*F, "g"): "x"}, "def f():\n    def g(a):\n        pass\n    x = none\n    g(a=none)\n")

    def test_several(self):
        text = "def f(a, /):\n    b = a\n    def c():\n        b = a\n        return lambda b: (a, b)\n    return (b, c)\n"
        self.repaired({(*F, "b"): ("m", (0, 3, 0, 1)), ("m", (0, 3, 1), "b"): ("m", (0, 3, 1, 3, 0, 2, 1)), ("m", (0, 3, 1, 3, 1, 1), "b"): ("m", (0, 3, 1, 3, 1, 1, 2, 1, 0, 1))},
                      {(*F, "a"): "b"}, text)

    def test_none_that_mend_it(self):
        for names, text, place in (({(*F, "a"): "b"}, "def f(a, /, b):\n    return (a, b)\n", ("m", (0, 2, 0, 0))),
                                   ({(*F, "a"): "c", (*F, "b"): "c"}, "def f(a, b, /):\n    return a\n", ("m", (0, 2, 0, 0))),
                                   ({(*F, "a"): "x"}, "def f(a, /):\n    return (x, a)\nx = none\n", ("m", (0, 3, 0, 1, 1, 0, 1))),
                                   ({(*F, "a"): "b", (*F, "b"): "b"}, "def f(a, /):\n    b = a\n", ("m", (0, 3, 0, 1)))):
            with self.assertRaises(Caught) as caught:
                repairs(told(text), names)
            self.assertEqual((caught.exception.module, caught.exception.path), place)
            self.assertIs(Repairs(names, {}).shows(told(text), names), False)

    def test_shows_of_changed_ones(self):
        program = told("def f(a, /):\n    b = a\n    d = none\n    return b\n_x = none\n")
        names = {(*F, "a"): "b"}
        found = repairs(program, names)
        b = (*F, "b")
        for late in ("e", "_z", "abcdefghijkl"):
            found.names[b] = late
            self.assertIs(found.shows(program, names), True, late)
        for late in ("b", "d", "a b", "from"):
            found.names[b] = late
            self.assertIs(found.shows(program, names), False, late)
        found.names[b] = "c"
        for further, late in (((*F, "d"), "e"), (("m", (), "_x"), "_y"), (("m", (), "f"), "_f"), (("m", (9,), "a"), "e")):
            found.names[further] = late
            self.assertIs(found.shows(program, names), False)
            del found.names[further]
        self.assertIs(found.shows(program, names), True)
        found.names[(*F, "a")] = "e"
        self.assertIs(found.shows(program, names), False)
        self.assertIs(found.shows(program, {(*F, "a"): "e"}), False)
        del found.names[(*F, "a")]
        self.assertIs(found.shows(program, names), False)
        found = repairs(program, names)
        found.places[b] = ("m", (0, 3, 2, 1, 1))
        self.assertIs(found.shows(program, names), False)
        found.places = {}
        self.assertIs(found.shows(program, names), False)
        found.places = {b: ("m", (0, 3, 0, 1)), (*F, "d"): ("m", (0, 3, 1, 1))}
        self.assertIs(found.shows(program, names), False)
        found = repairs(program, names)
        self.assertIs(found.shows(program, {}), False)
        self.assertIs(found.shows(told("def f(a, /):\n    c = a\n"), names), False)

    def test_made_by_hand(self):
        names, places = {(*F, "a"): "b", (*F, "b"): "q"}, {(*F, "b"): ("m", (0, 3, 0, 1))}
        made = Repairs(names, places)
        names.clear()
        places.clear()
        program = told("def f(a, /):\n    b = a\n    return b\n")
        self.assertIs(made.shows(program, {(*F, "a"): "b"}), True)
        self.assertFalse(made == repairs(program, {(*F, "a"): "b"}))
        self.assertTrue(made == Repairs({(*F, "b"): "q", (*F, "a"): "b"}, {(*F, "b"): ("m", (0, 3, 0, 1))}))
        self.assertFalse(made == made.names)
        found = repairs(program, {(*F, "a"): "b"})
        kept = repairs(program, {(*F, "a"): "b"})
        found.names.clear()
        self.assertEqual(repairs(program, {(*F, "a"): "b"}), kept)


class Slow:
    """Renames told by the words of the document, one by one, with nothing kept."""

    def __init__(self, program, names):
        self.program = program
        self.names = names

    def late(self, names):
        late = {module: program for module, program in self.program.items()}
        for module, path, variable in bindings(self.program):
            if variable in names:
                late[module] = put(late[module], path, names[variable])
        return late

    def caught(self):
        late = self.late(self.names)
        rows = [(module, path, variable) for module, path, variable in bindings(self.program) if variable in self.names]
        if not is_program(late):
            for module, path, variable in rows:
                if is_program(self.late({other: name for other, name in self.names.items() if other != variable})):
                    return (module, path)
            return rows[0][:2]
        if set(Names(late).loose) != set(Names(self.program).loose):
            return (None, ())
        before = {row[:2]: row[2] for row in bindings(self.program)}
        owners = {}
        for module, path, variable in bindings(late):
            old = before.get((module, path))
            if variable is None:
                continue
            if old is None or variable != (*old[:2], self.names.get(old, old[2])) or owners.setdefault(variable, old) != old:
                return (module, path)
        return None


def put(thing, path, part_of):
    if not path:
        return part_of
    return (*thing[:path[0]], put(thing[path[0]], path[1:], part_of), *thing[path[0] + 1:])


class ByChance(unittest.TestCase):
    def test_renames_and_repairs(self):
        kinds = {}
        for seed in range(130):
            program = tame_program(seed) if seed % 3 else program_by_chance(seed)[0]
            if program is None or alike(program, program) is None:
                continue
            chance = random.Random(seed)
            found = variables(program)
            words = ["a", "b", "v", "w", "f", "_h", "i", "k", "_q", "get"] + [row[2] for row in found]
            for _ in range(4):
                names = {variable: chance.choice(words) for variable in chance.sample(found, min(chance.choice((1, 1, 2, 3)), len(found)))}
                kind = self.look(program, names)
                kinds[kind] = kinds.get(kind, 0) + 1
        self.assertTrue(all(kinds.get(kind, 0) > 8 for kind in ("fixed", "goes", "caught", 1)), kinds)

    def look(self, program, names):
        try:
            late = renamed(program, names)
        except Fixed:
            return "fixed"
        except Caught as caught:
            self.assertEqual((caught.module, caught.path), Slow(program, names).caught())
            return self.look_at_repairs(program, names)
        self.assertIsNone(Slow(program, names).caught())
        self.assertIsNot(alike(program, late), False)
        self.assertEqual(repairs(program, names), Repairs(names, {}))
        return "goes"

    def look_at_repairs(self, program, names):
        try:
            found = repairs(program, names)
        except Caught:
            return "caught"
        self.assertTrue(found.shows(program, names))
        self.assertIsNot(alike(program, renamed(program, found.names)), False)
        self.assertGreater(len(found.places), 0)
        for variable in found.places:
            with self.assertRaises(Caught):
                renamed(program, {other: name for other, name in found.names.items() if other != variable})
        return len(found.places)


class HowLong(unittest.TestCase):
    TEXT = "".join(f"def _f{name}(a, b, /):\n    c = ?p(a, b)\n    def d(e):\n        nonlocal c\n        g = e\n        c = g\n    for h in (a, b):\n        d(e=h)\n    return lambda i: (i, c)\n" for name in "abcdefgh")

    def test_all_variables_of_some_dozens_of_statements(self):
        program = {"m": read_module(self.TEXT)}
        self.assertGreater(sum(1 for line in self.TEXT.splitlines()), 70)
        names = {variable: f"_z{'abcdefghijklmnopqrstuvwxyz'[at // 26]}{'abcdefghijklmnopqrstuvwxyz'[at % 26]}" for at, variable in enumerate(variables(program))}
        self.assertEqual(len(names), 72)
        began = time.perf_counter()
        late = renamed(program, names)
        self.assertLess(time.perf_counter() - began, 1)
        self.assertNotEqual(late, program)
        names[("m", (0,), "c")] = names[("m", (0,), "a")]
        names[("m", (0,), "b")] = names[("m", (0,), "a")]
        began = time.perf_counter()
        with self.assertRaises(Caught):
            renamed(program, names)
        self.assertLess(time.perf_counter() - began, 1)

    def test_repairs(self):
        text = "def f(a, /):\n" + "".join(f"    {name} = ?p(a)\n" for name in "bcdeghijklmn") + "    return (lambda b, c: (b, c, a))(b, c)\n"
        program = {"m": read_module(text)}
        began = time.perf_counter()
        found = repairs(program, {(*F, "a"): "b"})
        self.assertLess(time.perf_counter() - began, 3)
        self.assertEqual(len(found.places), 2)
        self.assertEqual(part(program["m"], found.places[(*F, "b")][1]), "b")
        program = {"m": read_module(self.TEXT)}
        began = time.perf_counter()
        self.assertEqual(list(repairs(program, {("m", (0,), "a"): "b"}).places), [("m", (0,), "b")])
        self.assertLess(time.perf_counter() - began, 5)


if __name__ == "__main__":
    unittest.main()
