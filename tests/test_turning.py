"""[16] Turns: what each gives, and each of its words."""

import unittest

from chance import program_by_chance
from helping import told
from nested import nested_program
from places import alike, function_blocks
from tame import tame_program
from turnedparts import turning
from turnedparts.errors import BadPlace, BadProgram, NotPlain
from turnedparts.programs import is_program
from turnedparts.turning import boxed, branched, chosen, eager, exchanged, lazy, put_in, taken_out, unrolled
from turnedparts.writing import write_module

F = (0, 3)
NAMED = (lazy, boxed)
ALL = (lazy, eager, unrolled, branched, chosen, taken_out, put_in, exchanged, boxed)
# One statement of each kind that is no def of a function.
OTHERS = ("b = a", "b, c = a", "if a:\n    pass", "for b in (a):\n    pass", "each b in a:\n    pass", "return a", "return", "yield a", "raise bad", "try:\n    pass\nexcept bad:\n    pass",
          "with a:\n    pass", "see a", "a", "pass", "def b():\n    pass")


def lines(text, front="    "):
    return "".join(front + line + "\n" for line in text.split("\n"))


class Turns(unittest.TestCase):
    maxDiff = None
    head = "def f(a, /):\n"

    def turned(self, turn, block, late, place=0, path=F, name=None, rest="", behind="", is_alike=True):
        """See what a turn gives, and whether this is alike; the programs."""
        program = told(self.head + lines(block) + rest)
        found = turn(program, "m", path, place, *([] if name is None else [name]))
        self.assertEqual(write_module(found, "m"), self.head + lines(late) + rest + behind)
        if is_alike is not None:
            self.assertIs(alike(program, found), is_alike)
        return program, found

    def is_not_plain(self, turn, word, block, place=0, path=F, name=None, rest="", **modules):
        if turn in NAMED and name is None:
            name = "_go"
        with self.assertRaises(NotPlain) as caught:
            turn(told(self.head + lines(block) + rest, **modules), "m", path, place, *([] if name is None else [name]))
        self.assertEqual(caught.exception.why, word, block)


class Kinds(Turns):
    def test_other_kinds(self):
        goes = {lazy: ("for",), eager: ("def",), unrolled: ("for",), branched: ("b", "return", "yield", "see", "a"), chosen: ("if",), taken_out: ("if",), put_in: ("if",), boxed: ("def",)}
        for turn in goes:
            for block in OTHERS:
                if block.split(" ")[0] not in goes[turn] or block.startswith("b, c"):
                    self.is_not_plain(turn, "kind", block, name="from" if turn in NAMED else None)

    def test_bad_places(self):
        program = told("class c:\n    def get(me):\n        pass\ndef f(a):\n    if a:\n        pass\n        see a\n    see a\n")
        for turn in ALL:
            name = ["from"] if turn in NAMED else []
            for module, path, place in (("n", (1, 3), 0), (None, (1, 3), 0), ("m", (), 0), ("m", (1,), 0), ("m", (1, 3, 0), 0), ("m", (1, 3, 0, 1), 0), ("m", (0, 3), 0), ("m", [1, 3], 0), ("m", (1, 3), 2),
                                        ("m", (1, 3), -1), ("m", (1, 3), None), ("m", (1, 3), True), ("m", (1, 3, 0, 2), 2), ("m", (True, 3), 0), ("m", (1, 3, 0, 3), 0), ("m", (9, 3), 0)):
                with self.assertRaises(BadPlace, msg=(turn, module, path, place)):
                    turn(program, module, path, place, *name)
            with self.assertRaises(BadProgram):
                turn({}, None, None, None, *name)
        for path, place in (((1, 3), 1), ((1, 3, 0, 2), 1), ((0, 3, 0, 3), 0)):
            with self.assertRaises(BadPlace):
                exchanged(program, "m", path, place)
            if path != (0, 3, 0, 3):
                with self.assertRaises(NotPlain):
                    put_in(program, "m", path, place)
        exchanged(program, "m", (1, 3), 0)

    def test_arguments_and_answers(self):
        text = "def f(a, /):\n    for b in (a):\n        see b\n"
        program = told(text)
        late = lazy(program, "m", F, 0, "go")
        kept = dict(late)
        late.clear()
        self.assertEqual(lazy(program, "m", F, 0, "go"), kept)
        self.assertEqual(program, told(text))

    def test_interface(self):
        self.assertEqual([turn.__module__ for turn in ALL], [turning.__name__] * 9)


class Loops(Turns):
    def test_lazy(self):
        self.turned(lazy, "for b in (a, \"t\"):\n    see b\nsee a", "def go():\n    yield a\n    yield \"t\"\neach b in go():\n    see b\nsee a", name="go")
        self.turned(lazy, "for b in (a):\n    for b in (b, b):\n        return b", "for b in (a):\n    def _go():\n        yield b\n        yield b\n    each b in _go():\n        return b",
                    path=(0, 3, 0, 3), name="_go", is_alike=True)
        # The items are reckoned as they are needed then.
        self.turned(lazy, "for b in (a, _g(a)):\n    see \"t\"", "def go():\n    yield a\n    yield _g(a)\neach b in go():\n    see \"t\"", name="go", rest="def _g(t):\n    see t\n", is_alike=False)

    def test_lazy_words(self):
        for name in ("", "see", "f", "a", "m", "let", "kind", "x", None, 3):
            program = told("def f(a, /):\n    for b in (a):\n        raise kind a.x\n        b = none\n")
            with self.assertRaises(NotPlain) as caught:
                lazy(program, "m", F, 0, name)
            self.assertEqual(caught.exception.why, "name")
        self.is_not_plain(lazy, "name", "for b in ():\n    pass", name="b")
        self.is_not_plain(lazy, "items", "for b in ():\n    pass")
        self.is_not_plain(lazy, "large", "for b in (a, a):\n    pass\n" + "\n".join(["pass"] * 195), name="go")
        self.is_not_plain(lazy, "items", "for b in ():\n    pass\n" + "\n".join(["pass"] * 197), name="go")

    def test_eager(self):
        self.turned(eager, "def g():\n    yield a\n    yield \"t\"\neach b in g():\n    see b\nsee a", "for b in (a, \"t\"):\n    see b\nsee a")
        self.turned(eager, "def g():\n    yield a\neach a in g():\n    a = none", "for a in (a):\n    a = none")
        program, found = self.turned(eager, "def g():\n    yield a\neach b in g():\n    see b", "for b in (a):\n    see b")
        self.assertEqual(lazy(found, "m", F, 0, "g"), program)

    def test_eager_words(self):
        each = "\neach b in g():\n    see b"
        for walk in ("def g(c=none):\n    yield a", "def g():\n    pass", "def g():\n    yield a\n    see a", "def g():\n    if a:\n        yield a", "def g():\n    nonlocal a\n    yield a", "def g():\n    return a"):
            self.is_not_plain(eager, "items", walk + each)
            self.is_not_plain(eager, "items", walk)
        for rest in ("", "\nsee a", "\neach b in g(a):\n    pass", "\neach b in g:\n    pass", "\nsee a" + each, "\nfor b in (g()):\n    pass", "\neach b in g(c=a):\n    pass", each + each, each + "\nsee g", "\ndef h():\n    pass\n" + each[1:],
                     "\neach b in g():\n    g()", "\neach b in (lambda: g()):\n    pass", "\neach b in h():\n    pass\ndef h():\n    yield a\n    see g"):
            self.is_not_plain(eager, "loop", "def g():\n    yield a" + rest)
        self.is_not_plain(eager, "loop", "g = none\ndef g():\n    yield a" + each, 1)
        self.is_not_plain(eager, "loop", "def g():\n    yield g" + each)

    def test_unrolled(self):
        self.turned(unrolled, "for b in (a, \"t\"):\n    see b\n    see a\nsee b", "b = a\nsee b\nsee a\nb = \"t\"\nsee b\nsee a\nsee b")
        self.turned(unrolled, "see a\nfor b in (a):\n    pass", "see a\nb = a\npass", 1)
        self.turned(unrolled, "for b in (a, _g(a)):\n    see b", "b = a\nsee b\nb = _g(a)\nsee b", rest="def _g(t):\n    see \"u\"\n    return t\n", is_alike=False)

    def test_unrolled_words(self):
        for body in ("def g():\n    pass", "if a:\n    pass\nelse:\n    def g():\n        pass", "try:\n    pass\nfinally:\n    def g():\n        pass"):
            self.is_not_plain(unrolled, "body", f"for b in (a):\n{lines(body)}".rstrip("\n"))
            self.is_not_plain(unrolled, "body", f"for b in ():\n{lines(body)}".rstrip("\n"))
        self.is_not_plain(unrolled, "body", "b = none\ndef g():\n    for c in (a):\n        nonlocal b", path=(0, 3, 1, 3))
        self.is_not_plain(unrolled, "items", "for b in ():\n    pass")
        self.is_not_plain(unrolled, "large", "for b in ({}):\n    pass".format(", ".join(["a"] * 100)))
        self.turned(unrolled, "for b in ({}):\n    pass".format(", ".join(["a"] * 99)), "\n".join(["b = a\npass"] * 99))


class Branches(Turns):
    def test_branched_and_chosen(self):
        for front in ("b = ", "", "return ", "see ", "yield "):
            choice = f"{front}a.x if ?p(a) else (none if a else a)"
            choice = choice.replace("(none if a else a)", "none if a else a")
            branches = f"if ?p(a):\n    {front}a.x\nelse:\n    {front}none if a else a"
            program, late = self.turned(branched, "see a\n" + choice, "see a\n" + branches, 1)
            self.assertEqual(chosen(late, "m", F, 1), program)
            self.turned(chosen, branches, choice)

    def test_branched_words(self):
        for block in ("b = a", "return", "return a", "see (a if a else a, a)", "yield a", "a.x", "return lambda: a if a else a", "see ?p(a if a else a)"):
            self.is_not_plain(branched, "choice", block)
        self.is_not_plain(branched, "kind", "raise bad a if a else a")
        deep = "\n".join("    " * at + "if a:" for at in range(10)) + "\n" + "    " * 10 + "see a if a else a"
        self.is_not_plain(branched, "large", deep, path=F + tuple(number for _ in range(10) for number in (0, 2)))
        self.is_not_plain(branched, "large", "see a if a else a\n" + "\n".join(["pass"] * 197))

    def test_chosen_words(self):
        for block in ("if a:\n    see a", "if a:\n    see a\nelse:\n    see a\n    see a", "if a:\n    see a\n    see a\nelse:\n    see a", "if a:\n    b = a\nelse:\n    c = a",
                      "if a:\n    see a\nelse:\n    a", "if a:\n    return\nelse:\n    return", "if a:\n    return a\nelse:\n    return", "if a:\n    return\nelse:\n    return a",
                      "if a:\n    pass\nelse:\n    pass", "if a:\n    raise bad a\nelse:\n    raise bad none", "if a:\n    b, c = a\nelse:\n    b, c = none", "if a:\n    if a:\n        see a\nelse:\n    if a:\n        see a"):
            self.is_not_plain(chosen, "branches", block)
        deep = "(" * 11 + "a" + ",)" * 11
        self.is_not_plain(chosen, "large", f"if a:\n    see {deep}\nelse:\n    see a")
        self.turned(chosen, "if a:\n    see a\nelse:\n    see a", "see a if a else a")

    def test_taken_out_and_put_in(self):
        inside = "if a:\n    see a\n    see \"t\"\nelse:\n    b = a\n    see \"t\"\nsee none"
        outside = "if a:\n    see a\nelse:\n    b = a\nsee \"t\"\nsee none"
        program, late = self.turned(taken_out, inside, outside)
        self.assertEqual(put_in(late, "m", F, 0), program)
        self.turned(put_in, outside, inside)
        self.turned(put_in, "if a:\n    return a\nsee a", "if a:\n    return a\n    see a\nelse:\n    see a")
        self.turned(taken_out, "if a:\n    return a\n    return none\nelse:\n    see a\n    return none", "if a:\n    return a\nelse:\n    see a\nreturn none")
        self.turned(taken_out, "if a:\n    if a:\n        see a\n    if a:\n        see a\nelse:\n    see a\n    if a:\n        see a", "if a:\n    if a:\n        see a\nelse:\n    see a\nif a:\n    see a")

    def test_taken_out_words(self):
        for block in ("if a:\n    see a", "if a:\n    see a\nelse:\n    see a", "if a:\n    see a\n    see a\nelse:\n    see a", "if a:\n    see a\nelse:\n    pass\n    see a", "if a:\n    pass\n    see a\nelse:\n    pass\n    see none", "if a:\n    pass\n    see a"):
            self.is_not_plain(taken_out, "branches", block)

    def test_put_in_words(self):
        for block in ("if a:\n    see a", "if a:\n    pass\ndef g():\n    pass"):
            self.is_not_plain(put_in, "branches", block)
        self.is_not_plain(put_in, "branches", "b = none\ndef g():\n    if a:\n        pass\n    nonlocal b", path=(0, 3, 1, 3))
        self.turned(put_in, "if a:\n    pass\nif a:\n    def g():\n        pass", "if a:\n    pass\n    if a:\n        def g():\n            pass\nelse:\n    if a:\n        def g():\n            pass")
        self.is_not_plain(put_in, "large", "if a:\n    pass\nsee a\n" + "\n".join(["pass"] * 196))
        deep = "\n".join("    " * at + "if a:" for at in range(9)) + "\n" + "    " * 9 + "see a"
        self.is_not_plain(put_in, "large", f"if a:\n    pass\nif a:\n{lines(deep)}".rstrip("\n"))

    def test_exchanged(self):
        program, late = self.turned(exchanged, "see a\nsee \"t\"\nsee none", "see \"t\"\nsee a\nsee none", is_alike=False)
        self.assertEqual(exchanged(late, "m", F, 0), program)
        self.turned(exchanged, "see a\nb = a\nc = none\nsee b", "see a\nc = none\nb = a\nsee b", 1)
        self.turned(exchanged, "def g():\n    nonlocal b\n    b = a\nb = none\nsee a", "b = none\ndef g():\n    nonlocal b\n    b = a\nsee a")
        self.turned(exchanged, "if a:\n    pass\nelse:\n    see a\n    return a", "if a:\n    pass\nelse:\n    return a\n    see a", path=(0, 3, 0, 3), is_alike=False)


class Boxed(Turns):
    def box(self, block, late, made, run, place=0, path=F, name="_box", rest="", is_alike=True):
        """See the class that a def is turned into: its make and its run."""
        return self.turned(boxed, block, late, place, path, name, rest, f"class {name}:\n" + lines(made) + lines(run), is_alike)

    def test_with_what_it_uses(self):
        self.box("b = a\ndef g(c):\n    return (b, c, a, x)\nreturn g(a)", "b = a\ng = _box(a, b).run\nreturn g(a)",
                 "def make(_va, /, a, b):\n    _va.a = a\n    _va.b = b", "def run(_va, /, c):\n    return (_va.b, c, _va.a, x)", 1, rest="x = ?p()\n")
        self.box("def g(c, /, d=\"t\", *, e=none):\n    a = c\n    return (a, d, e)\nreturn g(a)", "g = _box().run\nreturn g(a)",
                 "def make(_va, /):\n    pass", "def run(_va, c, /, d=\"t\", *, e=none):\n    a = c\n    return (a, d, e)")
        self.box("def g():\n    see lambda a, k=a: (a, k, lambda: a)\nreturn none", "g = _box(a).run\nreturn none",
                 "def make(_va, /, a):\n    _va.a = a", "def run(_va, /):\n    see lambda a, k=_va.a: (a, k, lambda: a)")
        self.box("def g():\n    return (lambda: (a, a.x))()\nreturn g()", "g = _box(a).run\nreturn g()",
                 "def make(_va, /, a):\n    _va.a = a", "def run(_va, /):\n    return (lambda: (_va.a, _va.a.x))()")

    def test_names_that_are_given_anew(self):
        self.box("b = none\ndef g():\n    return b\nb = a\nreturn g()", "b = none\ng = _box(b).run\nb = a\nreturn g()", "def make(_va, /, b):\n    _va.b = b", "def run(_va, /):\n    return _va.b", 1, is_alike=False)
        self.box("def g():\n    return b\nb = a\nreturn g()", "g = _box(b).run\nb = a\nreturn g()", "def make(_va, /, b):\n    _va.b = b", "def run(_va, /):\n    return _va.b", is_alike=False)
        # A function can be called again where it is being done, and so can a method.
        self.box("b = a\ndef g():\n    return b\nb = a\nreturn g()", "b = a\ng = _box(b).run\nb = a\nreturn g()", "def make(_va, /, b):\n    _va.b = b", "def run(_va, /):\n    return _va.b", 1)

    def test_names(self):
        program = told("def f(_va, /):\n    _vb = _va\n    def g():\n        return ?_vd(_vb)\n    return g()\n", _ve="")
        late = boxed(program, "m", F, 1, "_vc")
        self.assertEqual(write_module(late, "m"), "def f(_va, /):\n    _vb = _va\n    g = _vc(_vb).run\n    return g()\nclass _vc:\n    def make(_vf, /, _vb):\n        _vf._vb = _vb\n    def run(_vf, /):\n        return ?_vd(_vf._vb)\n")
        self.assertIs(alike(program, late), True)

    def test_names_at_calls_and_attributes(self):
        self.box("def g():\n    return (_h(a=none), m.y, ?a().a)\nreturn g()", "g = _box().run\nreturn g()", "def make(_va, /):\n    pass", "def run(_va, /):\n    return (_h(a=none), m.y, ?a().a)",
                 rest="def _h(a):\n    return a\nuse m\ny = none\n")

    def test_in_inner_functions_and_methods(self):
        self.box("b = a\ndef h(b):\n    def g():\n        return (b, x)\n    return g()\nreturn h(b)", "b = a\ndef h(b):\n    g = _box(b).run\n    return g()\nreturn h(b)",
                 "def make(_va, /, b):\n    _va.b = b", "def run(_va, /):\n    return (_va.b, x)", 0, (0, 3, 1, 3), rest="x = none\n")
        program = told("class c:\n    def make(me, a):\n        me.x = a\n        def g():\n            return me.x\n        see g()\n    def low(me):\n        pass\n")
        late = boxed(program, "m", (0, 3, 0, 3), 1, "_box")
        self.assertEqual(write_module(late, "m").split("\n")[2:5], ["        me.x = a", "        g = _box(me).run", "        see g()"])
        self.assertIs(alike(program, late), True)

    def test_name(self):
        for name in ("box", "from", "_f", "_x", "_Box", "", 4, "_abcdefghijkl", "see"):
            self.is_not_plain(boxed, "name", "def g():\n    yield ?_x(_f)", name=name, rest="_f = none\n")
        with self.assertRaises(NotPlain) as caught:
            boxed(told("def f():\n    def g():\n        pass\n"), "m", F, 0, None)
        self.assertEqual(caught.exception.why, "name")
        with self.assertRaises(NotPlain) as caught:
            boxed(told("def f():\n    def g():\n        pass\n", _n=""), "m", F, 0, "_n")
        self.assertEqual(caught.exception.why, "name")

    def test_body(self):
        for body in ("nonlocal b\npass", "yield a", "if a:\n    yield a", "def h():\n    pass", "if a:\n    def h():\n        pass", "return g", "return lambda: g", "see run", "see make"):
            self.is_not_plain(boxed, "body", f"b, run, make = a\ndef g(k=()):\n{lines(body)}".rstrip("\n"), 1)
        self.is_not_plain(boxed, "body", "b = a\ndef h(c):\n    def g():\n        return (b, c)\n    return g()", 0, (0, 3, 1, 3))
        self.is_not_plain(boxed, "body", "def h(c):\n    def g():\n        return lambda: a\n    return g()", 0, (0, 3, 0, 3))
        for body in ("return (b.run, ?make(), x)", "see none"):
            boxed(told(self.head + lines(f"b, run, make = a\ndef g():\n{lines(body)}".rstrip("\n")) + "x = none\n"), "m", F, 1, "_go")

    def test_default(self):
        for default in ("a", "()", "?p()", "lambda: none", "x"):
            self.is_not_plain(boxed, "default", f"def g(k={default}):\n    pass", rest="x = none\n")
            self.is_not_plain(boxed, "body", f"def g(k={default}):\n    yield k", rest="x = none\n")

    def test_large(self):
        self.is_not_plain(boxed, "large", "def g():\n    pass\n" + "\n".join(["pass"] * 194))
        program = told(self.head + lines("def g():\n    pass\n" + "\n".join(["pass"] * 193)))
        self.assertTrue(is_program(boxed(program, "m", F, 0, "_go")))
        self.is_not_plain(boxed, "default", "def g(k=()):\n    pass\n" + "\n".join(["pass"] * 194))


class ByChance(unittest.TestCase):
    def test_those_that_do_always_the_same(self):
        many = {}
        for seed in range(27):
            for program in (nested_program(seed), tame_program(seed) if seed % 3 == 0 else None, program_by_chance(seed)[0] if seed % 3 == 0 else None):
                if program is None or alike(program, program) is None:
                    continue
                for module, path, block in function_blocks(program):
                    for place in range(len(block)):
                        for word in self.look(program, module, path, place):
                            many[word] = many.get(word, 0) + 1
        for word in ("branched", "put_in", "lazy", "unrolled", "exchanged", "boxed"):
            self.assertGreater(many.get(word, 0), 3, many)

    def look(self, program, module, path, place):
        for turn, back in ((branched, chosen), (chosen, branched), (taken_out, put_in), (put_in, None), (exchanged, exchanged), (unrolled, None)):
            try:
                late = turn(program, module, path, place)
            except (NotPlain, BadPlace):
                continue
            yield turn.__name__
            self.assertTrue(is_program(late))
            if turn not in (exchanged, unrolled):
                self.assertIsNot(alike(program, late), False, (turn, write_module(program, module)))
            if back is not None:
                self.assertEqual(back(late, module, path, place), program)
        for turn in NAMED:
            try:
                late = turn(program, module, path, place, "_go")
            except NotPlain:
                continue
            yield turn.__name__
            self.assertTrue(is_program(late))
            if turn is lazy:
                self.assertEqual(eager(late, module, path, place), program)


if __name__ == "__main__":
    unittest.main()
