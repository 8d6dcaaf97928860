"""[8] Trees: conditions, ways, leaves, and what is too large."""

import unittest

from helping import NONE, WALK, WRONG, Numbers, call, term, told, ways_of
from tame import tame_program
from turnedparts.alikes import tree
from turnedparts.errors import BadProgram, BadUse, Handed, PartsError, Ring, TooLarge
from turnedparts.outside import seen, uses

A, B = ("input", "0"), ("input", "1")


def leaf(*events):
    return ("leaf", tuple(events))


def back(value):
    return leaf(("back", value))


def text(word):
    return ("text", word)


class Trees(unittest.TestCase):
    maxDiff = None

    def tree(self, text, use=None, **modules):
        """The tree of a use; its ways are looked at in worlds that choose so."""
        program = told(text, **modules)
        use = use or call(len(program["m"][-1][2]))
        found = tree(program, use)
        self.check(program, use, found)
        return found

    def check(self, program, use, found):
        for choices, events in ways_of(found):
            conditions = [row[0] for row in choices]
            self.assertEqual(len(conditions), len(set(conditions)))
            where = Numbers(choices, events)
            self.assertEqual(seen(program, use, where.world), where.events)

    def test_leaf(self):
        self.assertEqual(self.tree("def f(a):\n    see a\n    return (a, none)\n"),
                         leaf(("see", A), ("back", ("tuple", (A, NONE)))))
        self.assertEqual(self.tree("def f():\n    pass\n"), back(NONE))
        self.assertEqual(self.tree("def f():\n    raise bad ?p()\n"), leaf(("raise", "bad", term("p"))))

    def test_inputs(self):
        self.assertEqual(self.tree('def f(a):\n    return "y" if a else "n"\n'), ("if", A, back(text("y")), back(text("n"))))
        self.assertEqual(self.tree('def f(a):\n    if a:\n        see "y"\n'),
                         ("if", A, leaf(("see", text("y")), ("back", NONE)), back(NONE)))
        self.assertEqual(self.tree("def f(a, *, k):\n    return k if k else a\n", call(1, ("k",))),
                         ("if", ("input", "k"), back(("input", "k")), back(A)))
        found = self.tree("class c:\n    def make(self, a):\n        self.a = a\n    def g(self, a, b):\n        return b if self.a else a\n",
                          ("method", "m", "c", 1, (), "g", 1, ("b",)))
        self.assertEqual(found, ("if", A, back(("input", ".b")), back(("input", ".0"))))

    def test_operations(self):
        self.assertEqual(self.tree('def f(a):\n    if ?p(a, "t", (none, a)):\n        return "y"\n'),
                         ("if", term("p", "0", text("t"), ("tuple", (NONE, A))), back(text("y")), back(NONE)))
        self.assertEqual(self.tree("def f(a):\n    return a if ?p(?q(), ?p(a)) else ()\n"),
                         ("if", term("p", term("q"), term("p", "0")), back(A), back(("tuple", ()))))

    def test_attributes_of_terms(self):
        self.assertEqual(self.tree("def f(a):\n    return a.k if a.x.y else a\n"),
                         ("if", term(".y", term(".x", "0")), back(term(".k", "0")), back(A)))

    def test_whether_outside_goes_on(self):
        found = self.tree("def f(a):\n    try:\n        yield a\n        see a\n        yield none\n    finally:\n        see \"e\"\n")
        last = ("see", text("e"))
        first = (WALK, ("yield", A))
        second = (*first, ("see", A), ("yield", NONE), last, ("end",))
        self.assertEqual(found, ("go", ("go", 0), ("go", ("go", 1), ("go", ("go", 2), leaf(*second), leaf(*second)),
                                                   leaf(*first, last, ("end",))), leaf(WALK, ("end",))))
        found = self.tree("def f(a):\n    if a:\n        yield a\n")
        self.assertEqual(found, ("go", ("go", 0), ("if", A, ("go", ("go", 1), leaf(WALK, ("yield", A), ("end",)), leaf(WALK, ("yield", A), ("end",))),
                                                   leaf(WALK, ("end",))), leaf(WALK, ("end",))))

    def test_a_generator_that_raises(self):
        found = self.tree("def f(a):\n    try:\n        yield a\n    finally:\n        raise bad a\n")
        raised = leaf(WALK, ("yield", A), ("raise", "bad", A))
        self.assertEqual(found, ("go", ("go", 0), ("go", ("go", 1), raised, raised), leaf(WALK, ("end",))))

    def test_what_is_no_term_is_no_condition(self):
        for told_text in ('"t"', '""', "()", "(a,)", "none", "f", "lambda: a"):
            self.assertEqual(self.tree(f"def f(a):\n    if {told_text}:\n        return a\n    return a\n"), back(A))

    def test_no_condition_twice_on_a_way(self):
        self.assertEqual(self.tree('def f(a):\n    if a:\n        if a:\n            return "y"\n        return "no"\n    return "o" if a else "n"\n'),
                         ("if", A, back(text("y")), back(text("n"))))
        found = self.tree("def f(a, b):\n    for i in (a, b, ?p(a), ?p(b), a):\n        see \"t\" if i else none\n    return ?p(a) if ?p(b) else a\n")
        self.assertEqual(len(ways_of(found)), 16)

    def test_equal_terms_are_one_condition(self):
        self.assertEqual(self.tree('def f(a):\n    v = ?p((a, "t"))\n    w = a\n    if v:\n        return "y" if ?p((w, "t")) else "o"\n    return v\n'),
                         ("if", term("p", ("tuple", (A, text("t")))), back(text("y")), back(term("p", ("tuple", (A, text("t")))))))
        # One with other values, or by another name, is another one.
        for other in ("?p((a, none))", "?q((a, \"t\"))", '?p(a, "t")', "?p(((a, \"t\"),))", '?p((a, "t")).p', '?p(("t", a))'):
            found = self.tree(f'def f(a):\n    if ?p((a, "t")):\n        return "y" if {other} else "o"\n')
            self.assertEqual(len(ways_of(found)), 3, other)

    def test_the_plain_tree_has_the_first_condition_first(self):
        found = self.tree("def f(a, b):\n    if b:\n        if a:\n            return a\n    if a:\n        return b\n")
        self.assertEqual(found, ("if", B, ("if", A, back(A), back(NONE)), ("if", A, back(B), back(NONE))))

    def test_reads(self):
        front = "use n\nx = ?p() if ?q() else none\ny = x\nclass c:\n    pass\n"
        read = ("if", term("q"), back(term("p")), back(NONE))
        for name, found in (("x", read), ("y", read), ("n", back(("module",))), ("c", back(("class",))), ("f", back(("function",)))):
            self.assertEqual(self.tree(front + "def f():\n    pass\n", ("read", "m", name), n=""), found)

    def test_what_is_not_there(self):
        for use in (call(0, name="g"), call(2), call(1, ("b",)), call(0), ("call", "n", "f", 1, ()), ("read", "m", "g"), ("call", "m", "c", 0, ()),
                    ("method", "m", "f", 0, (), "g", 0, ()), ("method", "m", "c", 1, (), "g", 0, ()), ("method", "m", "c", 0, (), "h", 0, ())):
            self.assertEqual(self.tree("def f(a):\n    return a\nclass c:\n    def g(self):\n        pass\n", use), leaf(WRONG), use)
        # The making is done ahead of what is not there.
        found = self.tree("class c:\n    def make(self, a):\n        see a\n", ("method", "m", "c", 1, (), "g", 0, ()))
        self.assertEqual(found, leaf(("see", A), WRONG))

    def test_deep_terms(self):
        items = ", ".join(["none"] * 20)
        text_of = f"def f(a):\n    for i in ({items}):\n        for j in ({items}):\n            a = ?p(a)\n    return a if a else none\n"
        found = tree(told(text_of), call(1))
        value = found[1]
        for _ in range(400):
            self.assertEqual(value[:2], ("op", "p"))
            value = value[2][0]
        self.assertEqual(value, A)
        found = tree(told(text_of.replace("?p(a)", "(a,)").replace("return a if a", "return a if ?p(a)")), call(1))
        value = found[1][2][0]
        for _ in range(400):
            self.assertEqual(value[0], "tuple")
            value = value[1][0]
        self.assertEqual(value, A)

    def test_by_chance(self):
        many = 0
        for seed in range(60):
            program = tame_program(seed)
            for use in uses(program):
                try:
                    found = tree(program, use)
                except PartsError:
                    continue
                self.check(program, use, found)
                many += 1
        self.assertGreater(many, 500)


class Errors(unittest.TestCase):
    def test_no_program(self):
        for thing in ({}, None, {"m": []}):
            with self.assertRaises(BadProgram):
                tree(thing, None)

    def test_no_use(self):
        program = told("def f(a, b, c, d, e, g, h, i, j):\n    f()\n")
        for use in (None, ("call", "m", "f", 1), ("call", "m", "f", True, ()), ("call", "m", "_f", 1, ()), ["read", "m", "f"], ("read", "_m", "f"),
                    ("call", "m", "f", 13, ()), ("call", "m", "f", 0, ("b", "a")), ("method", "m", "c", 0, (), "make", 0, ())):
            with self.assertRaises(BadUse):
                tree(program, use)

    def test_ring_and_handed(self):
        with self.assertRaises(Ring) as caught:
            tree(told("x = none\ndef f(a):\n    if a:\n        see a\n    else:\n        f(a)\n"), call(1))
        self.assertEqual((caught.exception.module, caught.exception.number), ("m", 1))
        for line, kind in (("see f", "see"), ("return f", "back"), ("raise bad f", "raise"), ("yield f", "yield")):
            with self.assertRaises(Handed) as caught:
                tree(told(f"def f(a):\n    {line}\n"), call(1))
            self.assertEqual(caught.exception.kind, kind)

    def test_the_first_way_that_comes_to_an_error(self):
        front = "def f(a):\n    if a:\n        "
        with self.assertRaises(Handed):
            tree(told(front + "see f\n    f(a)\n"), call(1))
        with self.assertRaises(Ring):
            tree(told(front + "f(a)\n    see f\n"), call(1))

    def test_as_for_uses(self):
        many = "def g(a, b, c, d, e, h, i, j, k):\n    pass\n"
        for text_of in (many, "def g(*, a=none, b=none, c=none, d=none, e=none, h=none):\n    pass\n"):
            with self.assertRaises(TooLarge):
                tree(told(text_of + "def f():\n    pass\n"), call())
        self.assertTrue(tree(told(many.replace("g", "_g") + "def f():\n    pass\n"), call()))

    def chain(self, many, name="p"):
        """The lines of a block with so many conditions one behind the other, each of which ends it if it holds."""
        return "".join(f"    if ?{name}(a{', none' * at}):\n        return\n" for at in range(many))

    def test_400_and_401_leaves(self):
        text_of = "".join(f'def _{name}(a):\n{self.chain(19, name)}    return "t"\n' for name in "hk")
        text_of += "def f(a):\n    v = _h(a)\n    w = _k(a)\n    if v:\n        if w:\n            see a\n"
        found = tree(told(text_of), call(1))
        self.assertEqual(len(ways_of(found)), 400)
        with self.assertRaises(TooLarge):
            tree(told(text_of + "            if ?l(a):\n                see a\n"), call(1))
        self.assertEqual(tree(told(text_of + "            if a.l:\n                see a\n"), call(2)), leaf(WRONG))

    def test_about_400_leaves(self):
        for one, other in ((20, 18), (24, 15), (49, 7), (7, 56), (7, 57), (20, 19), (28, 13), (10, 36)):
            text_of = f"def _h(a):\n{self.chain(one, 'h')}def f(a):\n    _h(a)\n{self.chain(other, 'k')}"
            is_large = (one + 1) * (other + 1) > 400 or one + other > 60
            try:
                self.assertEqual(len(ways_of(tree(told(text_of), call(1)))), (one + 1) * (other + 1))
                self.assertFalse(is_large)
            except TooLarge:
                self.assertTrue(is_large)

    def test_60_and_61_conditions(self):
        for many in (59, 60):
            found = tree(told("def f(a):\n" + self.chain(many)), call(1))
            self.assertEqual(max(len(choices) for choices, _ in ways_of(found)), many)
        with self.assertRaises(TooLarge):
            tree(told("def f(a):\n" + self.chain(61)), call(1))
        # Whether outside goes on is a condition, too.
        items = ", ".join(["none"] * 59)
        walk = f"def f(a):\n    for i in ({items}):\n        yield i\n"
        self.assertEqual(len(ways_of(tree(told(walk), call(1)))), 61)
        with self.assertRaises(TooLarge):
            tree(told(walk + "    yield a\n"), call(1))
        with self.assertRaises(TooLarge):
            tree(told(walk + "    if a:\n        pass\n"), call(1))


if __name__ == "__main__":
    unittest.main()
