"""[3] What does not fit in a text, with its line and column."""

import unittest

from turnedparts.errors import BadText, PartsError
from turnedparts.reading import read_module


class Misfits(unittest.TestCase):
    def bad(self, text, line, column):
        with self.assertRaises(BadText) as caught:
            read_module(text)
        self.assertEqual((caught.exception.line, caught.exception.column), (line, column), repr(text))

    def at(self, text):
        """A text in which @ stands in front of what does not fit; on its own line, in a def, and in a block of one."""
        for front in ("", "pass\n\n# a\n"):
            told = front + text
            before = told[:told.index("@")]
            self.bad(told.replace("@", ""), before.count("\n") + 1, len(before.split("\n")[-1]) + 1)
        inner = "def f():\n    if a:\n" + "\n".join("        " + row for row in text.split("\n"))
        before = inner[:inner.index("@")]
        self.bad(inner.replace("@", ""), before.count("\n") + 1, len(before.split("\n")[-1]) + 1)

    def test_error(self):
        self.assertEqual(BadText.__bases__, (PartsError,))

    def test_no_strings(self):
        for thing in (None, 3, True, b"pass", ["pass"], ("pass",), {}):
            self.bad(thing, 0, 0)

    def test_first_signs(self):
        for text in ("@A", "@1", "@)", "@=", "@:", "@,", "@.", "@*", "@/", "@[a]", "@'a'", "@\tpass", "@\rpass", "@take", "@as",
                     "@in a", "@else", "@else:", "@except bad:", "@finally:", "@abcdefghijklm", "@abcdefghijklm = a",
                     '@"A"', '@"abcdefghijklm"', '@"a_b"', '@"1"', '@"', '@"abc', "@\u00e4", "@;", "@\\"):
            self.at(text)

    def test_in_the_middle(self):
        for text in ("use @A", "use @if", "use a @,b", "use @abcdefghijklm", 'use @"a"', "use @(a)", "use a @b",
                     "from m @as n", "from @none take n as k", "from m take n @in k", "from m take n as @?",
                     "from m take n as k @l", "def @(a):", "def f@:", "def f @a:", "def f(a @b):", "def f(a)@", "def f() @a:",
                     "def f(): @pass", "def f(@if):", "def f(a, @a):", "def f(a, /, b, *, @b):", "def f(a, b=c, @a=c):",
                     "def f(@/):", "def f(@/, a):", "def f(a @/):", "def f(a, /, @/):", "def f(a, /, b, @/):", "def f(*@):",
                     "def f(*@a):", "def f(*,@):", "def f(*, @*):", "def f(a, *, b, @*):", "def f(*, a, @/):", "def f(*, @/):",
                     "def f(a, *,@):", "def f(a,@,b):", "def f(@,):", "def f(a=@):", "def f(a=@,):", "def f(a=b@=c):",
                     "def f(@(a)):", "def f(@?a):", "def f(a @/b):"):
            self.at(text)

    def test_parameters_behind_one_with_a_default(self):
        for text in ("def f(a=b, c@):", "def f(a=b, c@):\n    pass", "def f(a=b, c@, /):\n    pass", "def f(a=b, /, c@):\n    pass",
                     "def f(a, b=c, d@, e=c):\n    pass", "def f(a=b, c@,):", "def f(a=b, c@, *, d):", "def f(a=b, c @d):",
                     "def f(a=b, @a):", "def f(a=b, c=d, e@)", "def f(a=b, c@", "see lambda a=b, c@: a", "see lambda a=b, /, c@: a",
                     "see lambda a=b, c@, d=a: a", "a = lambda a=b, c@", "see (lambda a=lambda b=c, d@: a: b)"):
            self.at(text)

    def test_classes(self):
        for text in ("class @A:", "class c@", "class c(@?p()):", "class c(@none):", 'class c(@"a"):', "class c(a@()):",
                     "class c(a.b@.c):", "class c(a.@make):", "class c(a.@if):", "class c(a @b):", "class c(a,@,):",
                     "class c((a@, b)):", "class c((a.b)@.c):", "class c(a @if b else c):", "class c(@lambda: a):",
                     "class c(k@=a):", "class c(a): @pass", "class c(a)@.b:", "class c(@,):"):
            self.at(text)

    def test_heads(self):
        for text in ("if @:", "if a@", "if a @b:", "if a: @pass", "if a @= b:", "if a @as b:", "for @(a) in (b):",
                     "for a @of (b):", "for a@, b in (c):", "for a in @b:", "for a in (b)@", "for a in (b)@.c:",
                     "for a in (b,@,):", "for a in (@,):", "for a in (b) @if c else d:", "each @none in a:", "each a @a:",
                     "each a in @:", "each a in b@", "each a in b@, c:", "with @:", "with a as @(b):", "with a as b@.c:",
                     "with a as b@, c:", "with a as @none:", "with a@", "try@", "try @a:", "try: @pass"):
            self.at(text)

    def test_words_behind_blocks(self):
        self.at("if a:\n    pass\nelse@")
        self.at("if a:\n    pass\nelse @if b:")
        self.at("if a:\n    pass\nelse: @pass")
        self.at("if a:\n    pass\n@except bad:\n    pass")
        self.at("if a:\n    pass\nelse:\n    pass\n@else:\n    pass")
        self.at("for a in ():\n    pass\n@else:\n    pass")
        self.at("try:\n    pass\n@else:\n    pass")
        self.at("try:\n    pass\n@pass")
        self.at("try:\n    pass\nexcept@:\n    pass")
        self.at("try:\n    pass\nexcept @if:\n    pass")
        self.at("try:\n    pass\nexcept a @b:\n    pass")
        self.at("try:\n    pass\nexcept a as @(b):\n    pass")
        self.at("try:\n    pass\nexcept a as b@, c:\n    pass")
        self.at("try:\n    pass\nfinally@")
        self.at("try:\n    pass\nfinally @a:\n    pass")
        self.at("try:\n    pass\nfinally:\n    pass\n@except a:\n    pass")
        self.at("try:\n    pass\nfinally:\n    pass\n@finally:\n    pass")
        self.at("try:\n    pass\nexcept a:\n    pass\n@else:\n    pass")
        self.at("def f():\n    pass\n@finally:\n    pass")

    def test_simple_lines(self):
        for text in ("return a @b", "return @A", "return a@, b", "yield@", "yield @,", "raise@", "raise @(a)", 'raise @"a"',
                     "raise a b @c", "raise @none", "nonlocal@", "nonlocal a @b", "nonlocal a,@",
                     "nonlocal a, @a", "nonlocal a, b, @a", "nonlocal a@.b", "see@", "see a @b", "see a@, b", "see @pass",
                     "pass @pass", "pass@.a", "a @b", "a = @", "a = b @= c", "a = b@, c", "(a) @= b", "(a)@, b = c", "(a.b) @= c",
                     "a, @a = b", "a, b, @a = c", "a, b, @= c", "a,@, b = c", "a, b @c", "a, b@", "a,@", "a, @(b) = c",
                     "a, b@.c = d", "a.b@, c = d", "a.b = @", "a.@make = b", "a.@if = b", "a() @= b", "none @= b", '"a" @= b',
                     "?p() @= b", "a if b else c @= d", "a if b else c.d @= e", "lambda: a @= b", "lambda: a.b @= c",
                     "a.b.c() @= d", "() @= a", "(a, b) @= c"):
            self.at(text)

    def test_expressions(self):
        for text in ("see a.@", "see a.@make", "see a.@(b)", "see a.@if", "see a.@abcdefghijklm", "see ?@", "see ?@(a)", "see ?p@",
                     "see ?p @a", "see ?@none()", "see ?p(a@", "see ?p(a @b)", "see ?p(a,@,)", "see ?p(@,)", "see ?p(a@=b)",
                     "see ?@abcdefghijklm()", "see (@", "see (a@", "see (a, b@", "see (a,@", "see (@,)", "see (a,@,b)", "see (a @b)",
                     "see (a@=b)", "see f(@", "see f(a@", "see f(a=@)", "see f(a=b, @(c))", "see f(a=b, c@)",
                     "see f(a=b, @a=c)", "see f(a=b, c=d, @a=e)", "see f(a=b, @if=c)", "see f(@if=c)", "see f((a)@=b)",
                     "see f(a.b@=c)", "see f(none@=a)", "see f(a=b@=c)", "see f(a=b, @abcdefghijklm=c)", "see f(@abcdefghijklm=c)",
                     "see f(a @b)", "see a if @", "see a if b@", "see a if b @if c else d", "see a if b else @",
                     "see a if @lambda: b else c", "see a if b@, c", "see a if b else c @)",
                     "see a @else b", "see lambda@", "see lambda a@", "see lambda a @b: c", "see lambda: @", "see lambda a, @a: b",
                     "see lambda @(a): b", "see lambda@.a", "see lambda a=@: b", "see lambda *@: a", "see lambda *,@: a",
                     "see lambda @/: a", "see lambda: a @: b", "see lambda a=b, *, c, @a: d", "see @in", "see @=",
                     "see none(a) @b", "see a@:", "see (lambda: a) @b", "see a @\"b\"", 'see "a" @"b"',
                     'see "a"@b', 'see @"ab', 'see @"', 'see @"a', 'see f(@"a)', 'see a @"b', "see a@\tb",
                     "see a@A", "see @1", "see a@1", "see a @# b", 'see @"A"', 'see "a"@, "B"',
                     'see ("a", @"B")', 'see ("a", @"abcdefghijklm")', 'see (@"a_b", "a")', "see @-a", "see a @+ b", "see a@[b]",
                     "see a @is b", "see @'a'", "see not @a", "see a @and b"):
            self.at(text)

    def test_blanks_at_the_end(self):
        self.bad("see  ", 1, 6)
        self.bad("a =   ", 1, 7)
        self.bad("see f(  ", 1, 9)
        self.bad("pass\nif a  ", 2, 7)

    def test_blanks_in_front(self):
        self.bad(" pass", 1, 2)
        self.bad("    pass", 1, 5)
        self.bad("pass\n pass", 2, 2)
        self.bad("pass\n    pass", 2, 5)
        self.bad("if a:\npass", 2, 1)
        self.bad("if a:\n   pass", 2, 4)
        self.bad("if a:\n     pass", 2, 6)
        self.bad("if a:\n        pass", 2, 9)
        self.bad("if a:\n    pass\n     pass", 3, 6)
        self.bad("if a:\n    pass\n   pass", 3, 4)
        self.bad("if a:\n    pass\n  else:\n    pass", 3, 3)
        self.bad("if a:\n    if b:\n        pass\n      pass", 4, 7)
        self.bad("if a:\n    if b:\n        pass\n  pass", 4, 3)
        self.bad("if a:\n    pass\n    else:\n        pass", 3, 5)
        self.bad("if a:\n    pass\nelse:\n  pass", 4, 3)
        self.bad("try:\n    pass\n except a:\n    pass", 3, 2)
        # What is first wrong on the line is where it begins.
        self.bad("if a:\n   )", 2, 4)

    def test_missing_blocks(self):
        for head in ("def f():", "class c:", "if a:", "for a in ():", "each a in b:", "with a:", "try:"):
            self.bad(head, 2, 1)
            self.bad(head + "\n", 3, 1)
            self.bad(head + "\n\n# a\n", 5, 1)
            self.bad(head + "\n    # a", 3, 1)
            self.bad(head + "\n\n\npass\n", 4, 1)
            self.bad("if a:\n    " + head + "\n    pass", 3, 5)
            self.bad("if a:\n    " + head + "\npass", 3, 1)
        self.bad("if a:\n    pass\nelse:", 4, 1)
        self.bad("if a:\nelse:\n    pass", 2, 1)
        self.bad("try:\n    pass\nexcept a:\n", 5, 1)
        self.bad("try:\n    pass\nexcept a:\nfinally:\n    pass", 4, 1)
        self.bad("try:\n    pass\nfinally:\n", 5, 1)

    def test_missing_handlers(self):
        self.bad("try:\n    pass", 3, 1)
        self.bad("try:\n    pass\n", 4, 1)
        self.bad("try:\n    pass\n\n  # a\npass", 5, 1)
        self.bad("if a:\n    try:\n        pass\nelse:\n    pass", 4, 1)
        self.bad("if a:\n    try:\n        pass\n    pass", 4, 5)

    def test_too_many_statements(self):
        self.bad("pass\n" * 201, 201, 1)
        self.bad("pass\n\n" * 200 + "A", 401, 1)
        self.bad("if a:\n    pass\n" * 100 + "else:\n    pass", 202, 5)
        self.bad("if a:\n" + "    pass\n" * 199 + "else:\n    pass", 202, 5)
        self.bad("pass\n" * 199 + "if a:\n    pass", 201, 5)
        self.bad("pass\n" * 199 + "if a:\n", 202, 1)

    def test_too_deep_blocks(self):
        rows = ["    " * depth + "if a:" for depth in range(12)]
        self.bad("\n".join(rows + ["    " * 12 + "pass"]), 13, 49)
        self.bad("\n".join(rows + ["    " * 12 + ")"]), 13, 49)
        self.bad("\n".join(rows), 13, 1)
        self.bad("\n".join(rows[:11] + ["    " * 11 + "try:", "    " * 12 + "pass"]), 13, 49)

    def test_too_deep_expressions(self):
        self.assertEqual(read_module("(" * 29 + "a" + ")" * 29), (("do", ("name", "a")),))
        self.bad("(" * 30 + "a" + ")" * 30, 1, 31)
        self.bad("see " + "(" * 30 + "a" + ")" * 30, 1, 35)
        self.assertEqual(read_module("(" * 30 + ")" * 30), (("do", ("tuple", ())),))
        self.bad("(" * 30, 1, 31)
        self.bad("(" * 30 + "=", 1, 31)
        self.assertTrue(read_module("a(" * 29 + "a" + ")" * 29))
        self.bad("a(" * 30 + "a" + ")" * 30, 1, 61)
        self.assertTrue(read_module("a(" * 30 + ")" * 30))
        self.assertTrue(read_module("a(k=" * 29 + "a" + ")" * 29))
        self.bad("a(k=" * 30 + "a" + ")" * 30, 1, 121)
        self.assertTrue(read_module("?p(" * 29 + "a" + ")" * 29))
        self.bad("?p(" * 30 + "a" + ")" * 30, 1, 91)
        self.assertTrue(read_module("a if a else " * 29 + "a"))
        self.bad("a if a else " * 30 + "a", 1, 361)
        self.assertTrue(read_module("lambda:" * 29 + "a"))
        self.bad("lambda:" * 30 + "a", 1, 211)
        self.assertTrue(read_module("lambda a=" * 29 + "a" + ":a" * 29))
        self.bad("lambda a=" * 30 + "a" + ":a" * 30, 1, 271)
        # Not deeper: attributes, what is called, what stands in front of if and else.
        self.assertTrue(read_module("a" + ".b()" * 50))
        self.assertTrue(read_module("(" * 28 + "a if a else a.b()" + ")" * 28))
        self.bad("(" * 29 + "a if a else a" + ")" * 29, 1, 42)
        # Defaults of a def, bases of a class and items of a for are not deeper than their statement.
        self.assertTrue(read_module("def f(a=" + "(" * 29 + "a" + ")" * 29 + "):\n    pass"))
        self.bad("def f(a=" + "(" * 30 + "a" + ")" * 30 + "):\n    pass", 1, 39)
        self.assertTrue(read_module("for a in (" + "(" * 29 + "a" + ")" * 29 + "):\n    pass"))
        self.bad("for a in (" + "(" * 30 + "a" + ")" * 30 + "):\n    pass", 1, 41)
        self.assertTrue(read_module("class c(" + "(" * 29 + "a" + ")" * 29 + "):\n    pass"))
        self.bad("class c(" + "(" * 30 + "a" + ")" * 30 + "):\n    pass", 1, 39)

    def test_deep_expressions_of_each_line(self):
        for form in ("see {}", "{}", "return {}", "yield {}", "raise bad {}", "a = {}", "a, = {}", "a.b = {}", "{}.b = a", "if {}:",
                     "each a in {}:", "with {}:", "with {} as a:", "def f(a, *, b={}):", "for a in (a, {}):", "{} if a else a",
                     "a if {} else a", "class c({}):"):
            front = form.split("{}")[0]
            tail = "\n    pass" if form.endswith(":") else ""
            self.assertTrue(read_module(form.format("(" * 29 + "a" + ")" * 29) + tail), form)
            self.bad(form.format("(" * 30 + "a" + ")" * 30) + tail, 1, len(front) + 31)

    def test_deep_blocks_of_each_kind(self):
        # The statement is 11 deep, what is in its blocks 12, and what is in a block of these too deep.
        front = "".join("    " * depth + "if a:\n" for depth in range(10))
        blanks = "    " * 10
        for heads in (("if a:", "else:"), ("try:", "except a:"), ("try:", "finally:"), ("try:", "except a:", "finally:")):
            for head in heads:
                rows = [row for word in heads for row in (word, "    " + ("if a:" if word == head else "pass"))]
                text = front + "".join(f"{blanks}{row}\n" for row in rows)
                self.assertTrue(read_module(text.replace(blanks + "    if a:", blanks + "    pass")))
                at = text.split("\n").index(blanks + "    if a:")
                self.bad(text.replace(blanks + "    if a:\n", blanks + "    if a:\n" + blanks + "        pass\n"), at + 2, 49)

    def test_the_first_one_of_several(self):
        self.bad("pass\nsee )\nif a:\n  pass", 2, 5)
        self.bad("if a:\n  pass\nsee )", 2, 3)
        self.bad("see ) (", 1, 5)
        self.bad("try:\n    pass\npass )", 3, 1)

    def test_long_words_and_texts_that_fit(self):
        self.assertEqual(read_module("abcdefghijkl.abcdefghijkl"), (("do", ("attr", ("name", "abcdefghijkl"), "abcdefghijkl")),))
        self.assertEqual(read_module('see "abcdefghijkl"'), (("see", ("text", "abcdefghijkl")),))
        self.assertEqual(read_module('see "            "'), (("see", ("text", " " * 12)),))


if __name__ == "__main__":
    unittest.main()
