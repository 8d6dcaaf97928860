"""[14] Statements as functions, and back."""

import random
import unittest

from chance import program_by_chance
from helping import told
from nested import nested_program
from places import alike, function_blocks
from tame import tame_program
from turnedparts.errors import BadPlace, BadProgram, NotPlain, PartsError
from turnedparts.extracting import extract, put_back
from turnedparts.reading import read_module
from turnedparts.writing import write_module

F = (0, 3)


def lines(text, front="    "):
    return "".join(front + line + "\n" for line in text.split("\n"))


class Extracting(unittest.TestCase):
    maxDiff = None

    def goes(self, block, late, first=0, behind=1, path=F, name="go", head="def f(a, /):\n", rest=""):
        """See what a block is turned into, that this is alike, and that it goes back."""
        program = told(head + lines(block) + rest)
        found = extract(program, "m", path, first, behind, name)
        self.assertEqual(write_module(found, "m"), head + lines(late) + rest)
        self.assertIs(alike(program, found), True)
        self.assertEqual(put_back(found, "m", path, first), program)

    def is_not_plain(self, word, block, first=0, behind=1, path=F, name="go", head="def f(a, /):\n", rest=""):
        program = told(head + lines(block) + rest)
        with self.assertRaises(NotPlain) as caught:
            extract(program, "m", path, first, behind, name)
        self.assertEqual(caught.exception.why, word, block)
        self.assertIsInstance(caught.exception, PartsError)

    def test_what_stays_the_functions(self):
        self.goes("a = ?p(a)\nreturn a", "def go():\n    nonlocal a\n    a = ?p(a)\ngo()\nreturn a")
        self.goes("b = a\nb = b\nb = b\nsee b", "b = a\ndef go():\n    nonlocal b\n    b = b\n    b = b\ngo()\nsee b", 1, 3)
        self.goes("b = a\nsee b\nreturn", "def go():\n    b = a\n    see b\ngo()\nreturn", 0, 2)
        self.goes("see a", "def go():\n    see a\ngo()")
        self.goes("pass", "def go():\n    pass\ngo()")

    def test_the_order_of_nonlocal(self):
        block = "c = a\nif a:\n    b, d = (a, a)\nfor e in (a):\n    try:\n        h = a\n    except bad as g:\n        pass\nsee (b, c, d, e, h, g)\nb, c, d, e, g, h = (a, a, a, a, a, a)"
        late = "def go():\n    nonlocal c, b, d, e, h, g\n" + lines("\n".join(block.split("\n")[:8])) + "go()\n" + "\n".join(block.split("\n")[8:])
        self.goes(block, late, 0, 3)
        self.goes("b = none\na = none\nb = none\nb = a", "def go():\n    nonlocal b, a\n    b = none\n    a = none\n    b = none\ngo()\nb = a", 0, 3)

    def test_inner_functions(self):
        self.goes("def g():\n    b = a\n    return b\ng()\npass", "def go():\n    def g():\n        b = a\n        return b\n    g()\ngo()\npass", 0, 2)
        self.goes("def g():\n    nonlocal b\n    b = a\nb = none\ng()", "def go():\n    def g():\n        nonlocal b\n        b = a\n    b = none\n    g()\ngo()", 0, 3)
        # What inner functions give is none of the statements'.
        self.goes("a = none\ndef g():\n    a = none\n    yield a\neach b in g():\n    see b", "a = none\ndef go():\n    def g():\n        a = none\n        yield a\n    each b in g():\n        see b\ngo()", 1, 3)

    def test_within_blocks(self):
        self.goes("if a:\n    pass\nelse:\n    b = a\n    see b\nreturn", "if a:\n    pass\nelse:\n    def go():\n        b = a\n        see b\n    go()\nreturn", 0, 2, (0, 3, 0, 3))
        self.goes("try:\n    see a\nexcept bad as e:\n    pass\n    see e\nfinally:\n    see a", "try:\n    see a\nexcept bad as e:\n    pass\n    def go():\n        see e\n    go()\nfinally:\n    see a", 1, 2, (0, 3, 0, 2, 0, 2))
        self.goes("def g():\n    nonlocal b\n    b = ?p()\n    b = b\nb = none\ng()\nreturn b", "def g():\n    nonlocal b\n    def go():\n        nonlocal b\n        b = ?p()\n    go()\n    b = b\nb = none\ng()\nreturn b", 1, 2, (0, 3, 0, 3))
        head = "class c:\n    def get(me):\n"
        program = told(head + "        me = none\n        see me\n")
        found = extract(program, "m", (0, 3, 0, 3), 0, 2, "go")
        self.assertEqual(write_module(found, "m"), head + "        def go():\n            nonlocal me\n            me = none\n            see me\n        go()\n")

    def test_leaves(self):
        for block in ("return", "return a", "if a:\n    pass\nelse:\n    return", "try:\n    pass\nfinally:\n    for i in ():\n        return"):
            self.is_not_plain("leaves", block)
        self.is_not_plain("leaves", "yield a")
        self.is_not_plain("leaves", "see a\nsee a\nif a:\n    yield a", 1, 3)
        self.goes("see a\nyield a", "def go():\n    see a\ngo()\nyield a")

    def test_set_and_nonlocal(self):
        head = "class c:\n    def make(me, a):\n"
        for block, word in (("me.x = a", "set"), ("if a:\n    me.x = a", "set"), ("return\nme.x = a", "leaves"), ("me.x = a\nreturn", "leaves")):
            with self.assertRaises(NotPlain) as caught:
                extract(told(head + lines(block, " " * 8)), "m", (0, 3, 0, 3), 0, len(block.split("\n")) if "if" not in block else 1, "")
            self.assertEqual(caught.exception.why, word)
        inner = "b = a\ndef g():\n    nonlocal b\n    b = none\ng()\nreturn b"
        self.is_not_plain("nonlocal", inner, 0, 1, (0, 3, 1, 3), "f")
        self.goes(inner, "b = a\ndef go():\n    def g():\n        nonlocal b\n        b = none\n    g()\ngo()\nreturn b", 1, 3)

    def test_name(self):
        block = 'x = ?op(a)\nsee x.field\nraise kind ("text", a)'
        for name in ("", "from", "Go", "abcdefghijklm", None, 3, ("go",), "f", "a", "x", "op", "field", "kind", "text", "m", "let", "front", "def", "name", "tuple", "attr"):
            self.is_not_plain("name", block, 1, 2, name=name)
        self.goes(block, 'x = ?op(a)\ndef do_():\n    see x.field\ndo_()\nraise kind ("text", a)', 1, 2, name="do_")
        self.is_not_plain("name", "see a", name="see")
        self.is_not_plain("name", "see a", name="plain", rest="def g(b):\n    pass\n")
        self.goes("see a", "def plain():\n    see a\nplain()", name="plain")
        program = {**told("def f():\n    pass\n"), "other": ()}
        with self.assertRaises(NotPlain) as caught:
            extract(program, "m", F, 0, 1, "other")
        self.assertEqual(caught.exception.why, "name")

    def test_alone(self):
        self.is_not_plain("alone", "b = a\nreturn b")
        self.is_not_plain("alone", "see b\nb = a", 1, 2)
        self.is_not_plain("alone", "b = a\nreturn lambda: b")
        self.is_not_plain("alone", "b = a\ndef g():\n    nonlocal b\n    pass")
        self.is_not_plain("alone", "for b in (a, a):\n    pass\nsee b")
        self.goes("b = a\nreturn (lambda b: b)(a)", "def go():\n    b = a\ngo()\nreturn (lambda b: b)(a)")
        self.goes("b = a\nreturn ?b(a.b)", "def go():\n    b = a\ngo()\nreturn ?b(a.b)")

    def test_loop(self):
        each = "for i in (a, a):\n    "
        path = (0, 3, 0, 3)

        def loop(word, *statements, behind=None, head="def f(a, /):\n"):
            block = each + "\n".join(statements).replace("\n", "\n    ")
            behind = len(statements) if behind is None else behind
            if word:
                self.is_not_plain(word, block, 0, behind, path, head=head)
            else:
                late = each + ("def go():\n" + lines("\n".join(statements))).rstrip("\n").replace("\n", "\n    ") + "\n    go()"
                self.goes(block, late, 0, behind, path, head=head)

        loop("", "x = i", "see x")
        loop("", "see i", "x = i", "see x", "x = x")
        loop("loop", "x = x", "see x")
        loop("loop", "see x", "x = i")
        loop("loop", "if a:\n    x = i", "pass")
        loop("loop", "x, y = (i, i)")
        loop("loop", "for x in (a):\n    pass")
        loop("loop", "x = i", "see (lambda: x)()")
        loop("loop", "x = i", "def g():\n    see x", "g()")
        loop("loop", "def g():\n    see a", "g()")
        loop("", "x = i", "see (lambda k=x: k)()")
        loop("", "x = i", "see (lambda x: x)(x)")
        loop("loop", "x = (x, i)")
        loop("loop", "x = i", "y = (x, y)")
        loop("alone", "y = i", "x = x", "see y", behind=2)
        loop("loop", "x = x", "y = i", "see y", behind=2)
        loop("loop", "x = x", "y = i", "see x", "see y", behind=3)
        # The name of an inner def, and its defaults, stand outside of it.
        self.is_not_plain("loop", each + "x = i\n    def g(k=x):\n        return k\n    see g()", 0, 3, path)
        # Loops of other functions are none of this one.
        text = "for i in (a, a):\n    def g():\n        see x\n        x = i\n    g()"
        self.goes(text, "for i in (a, a):\n    def g():\n        def go():\n            see x\n            x = i\n        go()\n    g()", 0, 2, (0, 3, 0, 3, 0, 3))
        self.is_not_plain("loop", "each i in a:\n    if a:\n        x, y = (x, y)", 0, 1, (0, 3, 0, 3, 0, 2))

    def test_the_first_name_decides(self):
        self.is_not_plain("loop", "for i in (a):\n    x = x\n    y = y\nsee y", 0, 2, (0, 3, 0, 3))
        self.is_not_plain("alone", "for i in (a):\n    y = y\n    x = x\nsee y", 0, 2, (0, 3, 0, 3))

    def test_large(self):
        block = "\n".join("    " * at + "if a:" for at in range(10)) + "\n" + "    " * 10 + "see a"
        path = F + tuple(number for _ in range(10) for number in (0, 2))
        self.is_not_plain("large", block, path=path)
        program = told("def f():\n" + lines("pass") * 197)
        late = extract(program, "m", F, 0, 197, "go")
        self.assertEqual(len(late["m"][0][3]), 2)
        with self.assertRaises(NotPlain) as caught:
            extract(told("def f():\n" + lines("pass") * 198), "m", F, 0, 1, "go")
        self.assertEqual(caught.exception.why, "large")

    def test_several_words(self):
        self.is_not_plain("leaves", "for i in (a):\n    return\n    b = b\nsee b", name="f")
        head = "class c:\n    def make(me, a):\n        def f():\n            nonlocal a\n            a = none\n        me.x = a\n"
        for first, behind, name, word in ((0, 2, "", "set"), (1, 2, "", "set"), (0, 1, "f", "name")):
            with self.assertRaises(NotPlain) as caught:
                extract(told(head), "m", (0, 3, 0, 3), first, behind, name)
            self.assertEqual(caught.exception.why, word)
        self.is_not_plain("name", "b = a\nsee b", name="a")

    def test_bad_places(self):
        program = told("x = none\nclass c:\n    def get(me):\n        pass\ndef f(a):\n    if a:\n        pass\n    try:\n        pass\n    except bad:\n        pass\n    see a\n")
        good = [("m", (2, 3), 0, 3), ("m", (2, 3, 0, 2), 0, 1), ("m", (2, 3, 1, 1), 0, 1), ("m", (2, 3, 1, 2, 0, 2), 0, 1), ("m", (1, 3, 0, 3), 0, 1)]
        for row in good:
            extract(program, *row, "go")
        for module, path in (("n", F), (None, F), (3, F), ("m", ()), ("m", (2,)), ("m", (2, 2)), ("m", (2, 3, 0)), ("m", (2, 3, 0, 1)), ("m", (2, 3, 1, 2)),
                             ("m", (2, 3, 1, 2, 0)), ("m", (2, 3, 1, 2, 1, 2)), ("m", (2, 3, 1, 2, 0, 1)), ("m", (1, 3)), ("m", (1,)), ("m", (0,)), ("m", (3, 3)), ("m", (-1, 3)), ("m", [2, 3]), ("m", "23"),
                             ("m", None), ("m", (2, "3")), ("m", (2, 3, False, 2)), ("m", (2, 3, 0, True)), ("m", (2, 3, 2, 1)), ("m", (2, 3, 3, 2)), ("m", (2, 3, 0, 2, 0, 3)), ("m", (2, 3, 0, 3)),
                             ("m", (2, 3, 1, 3))):
            for ask in (lambda: extract(program, module, path, 0, 1, "go"), lambda: put_back(program, module, path, 0)):
                with self.assertRaises(BadPlace, msg=(module, path)):
                    ask()
        for first, behind in ((0, 0), (1, 1), (1, 0), (0, 4), (-1, 1), (3, 4), (None, 1), (0, None), (False, 1), (0, True), ("0", 1)):
            with self.assertRaises(BadPlace, msg=(first, behind)):
                extract(program, "m", (2, 3), first, behind, "from")
        self.assertTrue(issubclass(BadPlace, PartsError))

    def test_bad_programs(self):
        for ask in (lambda: extract({}, None, None, None, None, None), lambda: put_back({"m": 1}, None, None, None)):
            with self.assertRaises(BadProgram):
                ask()


class Back(unittest.TestCase):
    maxDiff = None

    def goes(self, block, late, number=0, path=F, head="def f(a, /):\n", rest="", is_alike=True):
        program = told(head + lines(block) + rest)
        found = put_back(program, "m", path, number)
        self.assertEqual(write_module(found, "m"), head + lines(late) + rest)
        self.assertIs(alike(program, found), is_alike)

    def is_not_plain(self, word, block, number=0, path=F, head="def f(a, /):\n", rest=""):
        with self.assertRaises(NotPlain) as caught:
            put_back(told(head + lines(block) + rest), "m", path, number)
        self.assertEqual(caught.exception.why, word, block)

    def test_goes(self):
        self.goes("see a\ndef g():\n    nonlocal a\n    a = none\n    see a\ng()\nreturn a", "see a\na = none\nsee a\nreturn a", 1)
        self.goes("def g():\n    b = a\n    see b\ng()", "b = a\nsee b")
        self.goes("def g():\n    pass\ng()", "pass")
        self.goes("b = none\ndef h():\n    nonlocal b\n    def g():\n        nonlocal b\n        b = a\n    g()\nh()\nreturn b", "b = none\ndef h():\n    nonlocal b\n    b = a\nh()\nreturn b", 1, (0, 3, 1, 3))

    def test_call(self):
        for block in ("see a\nsee a", "def g(b=none):\n    pass\ng()", "def g():\n    pass\nsee g()", "def g():\n    pass\ng", "def g():\n    pass\ng(a)",
                      "def g():\n    pass\ng(b=a)", "def g():\n    pass\nsee a\ng()", "def g():\n    pass\ng()\ng()", "def g():\n    pass\ng()\nsee (lambda: g)",
                      "def g():\n    pass\nh()\ndef h():\n    pass", "def g():\n    g()\ng()", "def g():\n    pass\ng()\ng = none", "def g():\n    pass\n?g()", "g()\ndef g():\n    pass",
                      "def g():\n    pass\na.g()", "def g():\n    pass\ng()()"):
            self.is_not_plain("call", block)
        self.is_not_plain("call", "g = none\ndef h():\n    nonlocal g\n    def g():\n        pass\n    g()", 1, (0, 3, 1, 3, 1)[:4])
        self.is_not_plain("call", "h = none\ndef h():\n    return\nh()", 1)

    def test_leaves(self):
        for inner in ("return", "return a", "if a:\n    return", "yield a", "pass\nnonlocal a", "nonlocal a", "nonlocal a\nnonlocal a", "nonlocal a\nif a:\n    nonlocal a"):
            self.is_not_plain("leaves", "def g():\n" + lines(inner) + "g()")
        self.goes("def g():\n    def h():\n        nonlocal a\n        return a\n    see h()\ng()", "def h():\n    nonlocal a\n    return a\nsee h()")

    def test_nonlocal(self):
        self.is_not_plain("nonlocal", "b = a\ndef h():\n    def g():\n        nonlocal b\n        b = none\n    g()\nh()", 0, (0, 3, 1, 3))
        self.is_not_plain("nonlocal", "b = a\ndef h():\n    see b\n    def g():\n        nonlocal a, b\n        see a\n    g()\nh()", 1, (0, 3, 1, 3))
        self.goes("def g():\n    nonlocal b\n    b = a\ng()\nb = b", "b = a\nb = b")

    def test_name(self):
        self.is_not_plain("name", "def g():\n    a = none\ng()")
        self.is_not_plain("name", "def g():\n    b = none\ng()\nfor b in ():\n    pass")
        text = "b = a\ndef h():\n    nonlocal b\n    b = a\n    def g():\n        b = none\n    g()\nh()"
        self.is_not_plain("name", text, 2, (0, 3, 1, 3))
        # A place for a variable from outside of the function, anywhere in its block.
        self.is_not_plain("name", "def g():\n    x = a\ng()\nreturn x", rest="x = none\n")
        self.is_not_plain("name", "def g():\n    x = a\ng()\nreturn lambda k=x: k", rest="x = none\n")
        self.is_not_plain("name", "def g():\n    x = a\ng()\nif a:\n    see ((lambda: x), none)", rest="x = none\n")
        self.is_not_plain("name", "x = a\ndef h():\n    def g():\n        x = none\n    g()\n    def i():\n        nonlocal x\n        x = none\nh()", 0, (0, 3, 1, 3))
        self.goes("def g():\n    x = a\n    see x\ng()\nreturn (lambda x: x)(a)", "x = a\nsee x\nreturn (lambda x: x)(a)", rest="x = none\n")
        self.goes("def h():\n    def g():\n        x = a\n        see x\n    g()\nh()\nreturn x", "def h():\n    x = a\n    see x\nh()\nreturn x", 0, (0, 3, 0, 3), rest="x = none\n")
        # Names at calls, and attributes, are apart.
        self.goes("def g():\n    x = a\n    see x\ng()\nreturn (?p().x, _h(x=a), m.x)", "x = a\nsee x\nreturn (?p().x, _h(x=a), m.x)", rest="x = none\nuse m\ndef _h(x):\n    return x\n")

    def test_loop(self):
        for block, goes in (("x = i\n        see x", True), ("see x\n        x = i", False), ("x = (x, i)", False), ("x = i\n        see (lambda: x)", False), ("if i:\n            x = i", False),
                            ("x = i\n        def h():\n            see x\n        h()", False), ("for x in (i):\n            see x", False)):
            text = f"for i in (a, a):\n    def g():\n        {block}\n    g()"
            if goes:
                self.goes(text, f"for i in (a, a):\n    {block}".replace("        see", "    see"), 0, (0, 3, 0, 3))
            else:
                self.is_not_plain("loop", text, 0, (0, 3, 0, 3))
        self.is_not_plain("loop", "for i in (a, a):\n    def g():\n        nonlocal y\n        x = x\n        see x\n        y = x\n    g()\ny = none", 0, (0, 3, 0, 3))
        self.goes("for i in (a, a):\n    def g():\n        nonlocal y\n        x = i\n        see x\n        y = x\n    g()\ny = none", "for i in (a, a):\n    x = i\n    see x\n    y = x\ny = none", 0, (0, 3, 0, 3))

    def test_several_words(self):
        self.is_not_plain("leaves", "b = a\ndef h():\n    def g():\n        nonlocal b\n        return\n    g()\nh()", 0, (0, 3, 1, 3))
        self.is_not_plain("nonlocal", "b = a\ndef h():\n    def g():\n        nonlocal b\n        x = b\n    g()\n    x = none\nh()", 0, (0, 3, 1, 3))
        loop = "for i in (a):\n    def g():\n        x = x\n        {} = none\n    g()\nreturn {}"
        self.is_not_plain("loop", loop.format("y", "y"), 0, (0, 3, 0, 3), rest="y = none\n")
        self.is_not_plain("name", loop.format("u", "u"), 0, (0, 3, 0, 3), rest="u = none\n")

    def test_bad_places(self):
        program = told("def f(a):\n    def g():\n        pass\n    g()\n")
        put_back(program, "m", F, 0)
        for number in (-1, 1, 2, 9, None, True, False, "0"):
            with self.assertRaises(BadPlace, msg=number):
                put_back(program, "m", F, number)
        with self.assertRaises(BadPlace):
            put_back(program, "m", (0, 3, 0, 3), 0)

    def test_arguments_stay_as_they_are(self):
        text = "def f(a, /):\n    a = none\n"
        program = told(text)
        late = extract(program, "m", F, 0, 1, "go")
        self.assertEqual(program, told(text))
        kept = dict(late)
        put_back(late, "m", F, 0).clear()
        self.assertEqual(late, kept)
        late.clear()
        self.assertEqual(extract(program, "m", F, 0, 1, "go"), kept)
        self.assertEqual(list(program), ["m"])


class ByChance(unittest.TestCase):
    def programs(self):
        for seed in range(150):
            yield seed, nested_program(seed)
            if seed % 3 == 0:
                yield seed, tame_program(seed)
                yield seed, program_by_chance(seed)[0]

    def test_extract_and_back(self):
        words = {}
        for seed, program in self.programs():
            if program is None or alike(program, program) is None:
                continue
            chance = random.Random(seed)
            rows = [row for row in function_blocks(program) if row[2]]
            for _ in range(5):
                module, path, block = chance.choice(rows)
                first = chance.randrange(len(block))
                word = self.look(program, module, path, first, chance.randint(first + 1, len(block)))
                words[word] = words.get(word, 0) + 1
            for module, path, block in rows:
                for number in range(len(block) - 1):
                    if block[number][0] == "def":
                        word = self.look_at_back(program, module, path, number)
                        words[word] = words.get(word, 0) + 1
        for word in ("goes", "leaves", "alone", "loop", "nonlocal", "back", "back name", "back call", "back nonlocal"):
            self.assertGreater(words.get(word, 0), 3, words)

    def look(self, program, module, path, first, behind):
        try:
            late = extract(program, module, path, first, behind, "go")
        except NotPlain as found:
            return found.why
        self.assertIsNot(alike(program, late), False, write_module(program, module))
        self.assertEqual(put_back(late, module, path, first), program)
        self.assertEqual(late, {name: read_module(write_module(late, name)) for name in late})
        return "goes"

    def look_at_back(self, program, module, path, number):
        try:
            late = put_back(program, module, path, number)
        except NotPlain as found:
            return "back " + found.why
        self.assertIsNot(alike(program, late), False, write_module(program, module))
        return "back"


if __name__ == "__main__":
    unittest.main()
