"""[9] Alike and unlike: what tells programs apart, what does not, and which error comes first."""

import time
import unittest

from helping import Numbers, call, told, ways_of
from model import Model
from turnedparts.alikes import Alike, Unlike, judge, tree
from turnedparts.errors import BadProgram, Handed, Ring, TooLarge
from turnedparts.outside import seen, uses


class Judging(unittest.TestCase):
    maxDiff = None

    def alike(self, one, other, **modules):
        """See that two texts of a module are alike."""
        one, other = [told(row, **modules) if isinstance(row, str) else row for row in (one, other)]
        for first, second in ((one, other), (other, one)):
            found = judge(first, second)
            self.assertIsInstance(found, Alike)
            self.assertTrue(bool(found) is True and found.shows(first, second))
            self.assertEqual(list(found.trees), uses(first, second))
            for use in found.trees:
                self.hold(found.trees[use], use, (first, second))
        return judge(one, other)

    def hold(self, tree_of_both, use, programs):
        """See that programs see the events of a tree's leaves in worlds that choose so."""
        for choices, events in ways_of(tree_of_both):
            where = Numbers(choices, events)
            for program in programs:
                self.assertEqual(seen(program, use, where.world), where.events)
                self.assertEqual(Model(program, where.world).seen(use), where.events)

    def unlike(self, one, other, use, place, **modules):
        """See that two texts of a module are unlike, first by a use, at a place."""
        one, other = [told(row, **modules) if isinstance(row, str) else row for row in (one, other)]
        for first, second in ((one, other), (other, one)):
            found = judge(first, second)
            self.assertIsInstance(found, Unlike)
            self.assertTrue(bool(found) is False and found.shows(first, second))
            self.assertEqual((found.use, found.place), (use, place))
            rows = [seen(program, use, found.world) for program in (first, second)]
            self.assertEqual(rows, [Model(program, found.world).seen(use) for program in (first, second)])
            self.assertEqual(rows[0][:place], rows[1][:place])
            self.assertNotEqual(rows[0][place:place + 1], rows[1][place:place + 1])
        return judge(one, other)

    def f(self, one, other, place=0, params="a", names=()):
        """See that two blocks of a def are unlike by its first use, at a place; all its parameters are given by place."""
        front = f"def f({params}, /):\n"
        self.unlike(front + block(one), front + block(other), call(params.count(",") + 1), place)

    def same(self, one, other, params="a, b"):
        front = f"def f({params}):\n"
        return self.alike(front + block(one), front + block(other))


def block(lines):
    return "".join(f"    {row}\n" for row in lines.split("\n"))


class Alikes(Judging):
    def test_statements_that_have_nothing_to_do_with_one_another(self):
        self.same("v = ?p(a)\nsee b\nreturn v", "see b\nv = ?p(a)\nreturn v")
        self.same("v = a\nw = b\nsee (v, w)", "w = b\nv = a\nsee (v, w)")
        self.same("v = ?p(a)\nw = ?q(v)\nreturn w", "return ?q(?p(a))")
        self.same("v = a.x\nsee b\nreturn v", "see b\nreturn a.x")
        self.same("if a:\n    pass\nsee b", "see b")

    def test_branches(self):
        self.same("if a:\n    return b\nreturn a", "return b if a else a")
        self.same("if a:\n    see b\nelse:\n    see b", "see b")
        self.same("if a:\n    if b:\n        see a", "if b:\n    if a:\n        see a")
        self.same("v = ?p(a)\nw = ?q(b)\nif v:\n    if w:\n        return v\nreturn none", "return (?p(a) if ?p(a) else none) if ?q(b) else none")
        self.same("if a:\n    v = b\nelse:\n    v = b\nreturn v", "return b")

    def test_helpers(self):
        front = "def f(a, b):\n    return ?p(a, b)\n"
        for other in ("def _h(b, a):\n    return ?p(a, b)\ndef f(a, b):\n    return _h(b, a)\n",
                      "def f(a, b):\n    def h():\n        return ?p(a, b)\n    return h()\n",
                      "def f(a, b):\n    v = none\n    def h():\n        nonlocal v\n        v = ?p(a, b)\n    h()\n    return v\n",
                      "def f(a, b):\n    return (lambda k: ?p(k, b))(a)\n",
                      "def _h(a):\n    yield a\ndef f(a, b):\n    each v in _h(a):\n        return ?p(v, b)\n",
                      "def _h(a):\n    raise bad a\ndef f(a, b):\n    try:\n        _h(a)\n    except bad as v:\n        return ?p(v, b)\n",
                      "class _c:\n    def make(self, v):\n        self.v = v\n    def get(self, w):\n        return ?p(self.v, w)\ndef f(a, b):\n    return _c(a).get(b)\n",
                      "class _b:\n    def get(self, w):\n        return ?p(self.v, w)\nclass _c(_b):\n    def make(self, v):\n        self.v = v\ndef f(a, b):\n    return _c(a).get(w=b)\n"):
            self.alike(front, other)

    def test_methods(self):
        one = "class c:\n    def make(self, v):\n        self.v = v\n    def get(self, w):\n        return ?p(self.v, w)\n"
        two = "class _b:\n    def get(me, w):\n        v = me.y\n        return ?p(v, w)\nclass c(_b):\n    def make(it, v):\n        it.y = v\n"
        found = self.alike(one, two)
        self.assertEqual(len(found.trees), 5)
        self.unlike(one, two.replace("(v, w)", "(w, v)"), ("method", "m", "c", 0, ("v",), "get", 0, ("w",)), 0)

    def test_other_modules(self):
        one = "def f(a, b):\n    return ?p(a, b)\n"
        for front, other in (("from _n take h as f\n", "def h(a, b):\n    return ?p(a, b)\n"), ("use _n\ndef f(a, b):\n    return _n.h(b, a=a)\n", "def h(b, a):\n    return ?p(a, b)\n"),
                             ("from _n take t as f\n", "from m take _g as t\n")):
            program = told(front + ("def _g(a, b):\n    return ?p(a, b)\n" if "take t" in front else ""), _n=other)
            self.alike(told(one), program)

    def test_a_public_module_has_uses(self):
        one, other = told("x = none\n"), told("x = none\n", n="x = none\n")
        self.unlike(one, other, ("read", "n", "x"), 0)
        self.alike(one, told("x = none\n", n="_x = none\n"))

    def test_what_is_wrong_in_both(self):
        # A name that is not there, and one that is wrong in all of its uses.
        self.alike("from m take x as x\n", "")
        self.alike("x = x\n", "")
        self.alike("def f(a):\n    a()\n", "def f(a):\n    raise wrong\n")
        self.alike("class c:\n    def g(self):\n        raise wrong\n    def h(self):\n        pass\n", "class c:\n    def h(self):\n        pass\n")

    def test_generators(self):
        self.same("for i in (a, b):\n    yield i", "yield a\nyield b")
        self.same("each i in _w(a):\n    yield i".replace("_w(a)", "(lambda: ?p())()"), "raise wrong\nyield a")
        self.alike("def _w(a):\n    yield a\n    yield none\ndef f(a):\n    each i in _w(a):\n        yield i\n",
                   "def f(a):\n    yield a\n    yield none\n")
        self.alike("def _w(a):\n    yield a\ndef f(a):\n    return _w(a)\n", "def f(a):\n    yield a\n")

    def test_finals(self):
        self.same("try:\n    see a\nfinally:\n    see b", "see a\nsee b")
        self.same("try:\n    raise bad a\nexcept any as v:\n    return v", "return a")
        self.same("try:\n    return a\nfinally:\n    return b", "return b")

    def test_no_uses(self):
        self.assertEqual(judge(told(""), told("_x = none\n")), Alike({}))
        self.assertTrue(judge(told(""), told("_x = none\n")))

    def test_the_order_of_modules_does_not_matter(self):
        one = told("use n\nx = n.y\n", n="y = ?p()\n")
        other = {name: one[name] for name in reversed(list(one))}
        self.assertEqual(judge(one, other), judge(one, one))

    def test_trees_for_each_use_of_both(self):
        found = judge(told("def f(a, b=none):\n    return (a, b)\n"), told("def f(a, b=none, /):\n    return (a, b)\n"))
        self.assertIsInstance(found, Unlike)
        found = judge(told("def f(a, b, /):\n    return (a, b)\n"), told("def f(a, k, /):\n    return (a, k)\n"))
        self.assertEqual(list(found.trees), [call(2), ("read", "m", "f")])


class Unlikes(Judging):
    def test_see(self):
        self.f("see a", "see b", params="a, b")
        self.f('see "t"', 'see "u"')
        self.f("see a", "pass")
        self.f("see (a,)", "see a")
        self.f("see ?p(a)", "see a.p")
        self.f("see none", "see ()")

    def test_back(self):
        self.f("return a", "return none")
        self.f("return a", "raise back a")
        self.f("return", "yield a")
        self.f("see a\nreturn a", "see a\nreturn ?p(a)", 1)

    def test_raise(self):
        self.f("raise bad a", "raise worse a")
        self.f("raise bad a", "raise bad")
        self.f("see a\nraise bad", "see a", 1)
        self.f("raise bad a", "see a\nraise bad a")
        self.f("return v\nv = a", "return a\nv = a")

    def test_yield_and_end(self):
        self.f("yield a", "yield none", 1)
        self.f("yield a\nyield a", "yield a", 2)
        self.f("yield a", "if a:\n    yield a", 1)
        self.f("yield a\nsee a", "yield a\nraise bad", 2)
        self.f("yield a", "return\nyield a", 1)
        self.f("yield a", "return a")

    def test_order(self):
        self.f("see a\nsee b", "see b\nsee a", params="a, b")
        self.f("see none\nsee a\nsee b", "see none\nsee b\nsee a", 1, params="a, b")
        self.f("yield a\nsee b", "see b\nyield a", 1, params="a, b")
        # Which of two failures is heard of.
        self.f("v, w = (a,)\nraise bad", "raise bad\nv, w = (a,)")
        self.f("if a:\n    raise bad\nif b:\n    raise worse", "if b:\n    raise worse\nif a:\n    raise bad", params="a, b")

    def test_what_outside_does(self):
        self.f("try:\n    yield a\nfinally:\n    see a", "yield a\nsee a", 2)
        self.f("try:\n    yield a\nexcept any:\n    pass\nsee a", "yield a\ntry:\n    see a\nfinally:\n    raise bad", 3)
        self.f("see a\nyield a", "yield a", 1)
        found = self.unlike("def f():\n    yield none\n    see none\n", "def f():\n    try:\n        yield none\n    finally:\n        see none\n", call(), 2)
        self.assertEqual(found.world.stop, 1)
        found = self.unlike("def f():\n    yield none\n    see none\n", "def f():\n    yield none\n", call(), 2)
        self.assertEqual(found.world.stop, None)

    def test_uses_that_only_one_has(self):
        front = "def f(a):\n    return a\n"
        self.unlike(front, front + "x = none\n", ("read", "m", "x"), 0)
        self.unlike(front, front.replace("(a)", "(a, b=none)"), call(0, "ab"), 0)
        self.unlike(front, front.replace("(a)", "(a, /)"), call(0, "a"), 0)
        self.unlike(front, front.replace("(a)", "(b)").replace("return a", "return b"), call(0, "a"), 0)
        self.unlike(front + "class c:\n    def make(self):\n        see none\n", front + "class c:\n    def g(self):\n        pass\n", ("method", "m", "c", 0, (), "g", 0, ()), 0)
        self.unlike("x = none\n", "def x():\n    pass\n", ("call", "m", "x", 0, ()), 0)
        self.unlike("x = none\n", "class x:\n    pass\n", ("read", "m", "x"), 0)
        self.unlike("def f():\n    raise wrong\n", "class f:\n    pass\n", ("read", "m", "f"), 0)

    def test_the_first_use_and_way(self):
        # Of several uses the first one, of several ways that with yes first.
        front = "def {}(a, /):\n    if a:\n        return {}\n    return {}\n"
        one = front.format("g", "a", "a") + front.format("f", "a", "none")
        other = front.format("g", "none", "a") + front.format("f", "none", '"t"')
        found = self.unlike(one, other, call(1), 0)
        self.assertEqual(found.world.truths, [found.world.inputs["0"]])
        found = self.unlike(one, other.replace('none\n    return "t"', 'a\n    return "t"'), call(1), 0)
        self.assertEqual(found.world.truths, [])
        found = self.unlike(one, other.replace('none\n    return "t"', "a\n    return none"), call(1, name="g"), 0)
        # The ways are those of the first program, then of the second one.
        one = "def f(a, b, /):\n    if a:\n        if b:\n            return a\n    return b\n"
        other = "def f(a, b, /):\n    if b:\n        return a if a else none\n    return none\n"
        found = self.unlike(one, other, call(2), 0)
        self.assertEqual(found.world.truths, [1])

    def test_worlds_keep_terms_apart(self):
        front = "def f(a, b, /):\n    return "
        for one, other in (("a", "b"), ("?p(a)", "?p(b)"), ("?p(a)", "?q(a)"), ("?p(a, b)", "?p(b, a)"), ("?p((a,))", "?p(a)"), ("?p()", "?p(none)"), ("a.x", "a.y"),
                           ("?p(?p(a))", "?p(a)"), ('?p("a b")', '?p("ab")'), ("a.x.y", "a.y.x"), ('("t", a)', '("u", a)'), ("?x(a)", "a.x")):
            self.unlike(front + one + "\n", front + other + "\n", call(2), 0)

    def test_kinds_in_worlds(self):
        # leave is called with the text of a kind, which may have other signs than texts have.
        text = 'class _c:\n    def enter(self):\n        pass\n    def leave(self, e):\n        see ?p(e)\ndef f():\n    with _c():\n        raise my_kind\n'
        self.unlike(text, text.replace("?p(e)", "?q(e)"), call(), 0)
        self.unlike(text, text.replace("my_kind", "my"), call(), 0)


class Errors(unittest.TestCase):
    def raised(self, kind, one, other):
        with self.assertRaises(kind) as caught:
            judge(told(one), told(other))
        return caught.exception

    def test_no_programs(self):
        program = told("x = f\ndef f():\n    f()\n")
        for one, other in ((None, program), (program, None), ({}, {}), (program, {"m": (("pass",),)})):
            with self.assertRaises(BadProgram):
                judge(one, other)
        with self.assertRaises(BadProgram) as caught:
            judge({"k": (("pass",),)}, {"n": []})
        self.assertEqual((caught.exception.module, caught.exception.number), ("k", 0))

    def test_as_for_uses(self):
        many = "def g(a, b, c, d, e, h, i, j, k):\n    g()\n"
        self.raised(TooLarge, many, "")
        self.raised(TooLarge, "", many)
        self.raised(TooLarge, "def f(*, a=none, b=none, c=none, d=none, e=none, h=none):\n    pass\n", "x = none\n")

    def test_the_first_use_decides(self):
        ring, handed, fine, other = ("def {}(a, /):\n    {}(a)\n", "def {}(a, /):\n    return {}\n", "def {}(a, /):\n    return a\n", "def {}(a, /):\n    return none\n")
        rows = {"ring": ring, "handed": handed, "fine": fine, "other": other}

        def text(one, two):
            return rows[one].replace("{}", "f") + rows[two].replace("{}", "g")

        self.raised(Ring, text("ring", "handed"), text("fine", "fine"))
        self.raised(Handed, text("handed", "ring"), text("fine", "fine"))
        self.raised(Handed, text("fine", "ring"), text("handed", "fine"))
        self.raised(Ring, text("fine", "ring"), text("fine", "handed"))
        self.raised(Handed, text("handed", "fine"), text("ring", "fine"))
        self.raised(Ring, text("ring", "fine"), text("handed", "fine"))
        self.assertEqual(judge(told(text("other", "ring")), told(text("fine", "ring"))).use, call(1))
        self.raised(Ring, text("ring", "other"), text("ring", "fine"))

    def test_the_first_way_decides(self):
        ways = {"ring": "f(a)", "handed": "see f", "fine": "see a", "other": "see none"}

        def text(one, two):
            return f"def f(a, /):\n    if a:\n        {ways[one]}\n    else:\n        {ways[two]}\n"

        self.raised(Ring, text("ring", "handed"), text("fine", "fine"))
        self.raised(Handed, text("handed", "ring"), text("fine", "fine"))
        self.raised(Handed, text("fine", "ring"), text("handed", "fine"))
        self.raised(Ring, text("fine", "ring"), text("fine", "handed"))
        self.raised(Ring, text("other", "ring"), text("other", "fine"))
        self.assertEqual(judge(told(text("other", "ring")), told(text("fine", "handed"))).place, 0)
        self.assertEqual(judge(told(text("other", "fine")), told(text("fine", "ring"))).place, 0)

    def test_on_one_way_the_first_program_first(self):
        error = self.raised(Ring, "x = none\ndef f(a, /):\n    f(a)\n", "def f(a, /):\n    if a:\n        return f\n")
        self.assertEqual(error.number, 1)
        error = self.raised(Ring, "def f(a, /):\n    f(a)\n", "x = none\ndef f(a, /):\n    f(a)\n")
        self.assertEqual(error.number, 0)
        # The second one asks for a condition, and comes to an error on its way with yes alone.
        self.raised(Handed, "def f(a, /):\n    return none\n", "def f(a, /):\n    if a:\n        return f\n")
        found = judge(told("def f(a, /):\n    return none\n"), told("def f(a, /):\n    if a:\n        return a\n    return f\n"))
        self.assertEqual((found.use, found.place, found.world.truths), (call(1), 0, [1]))

    def chain(self, many, name):
        return "".join(f"    if ?{name}(a{', none' * at}):\n        return a\n" for at in range(many))

    def test_too_large_trees(self):
        # A tree of both can be too large where those of each are not.
        one, other = [f"def f(a, /):\n{self.chain(many, name)}    return a\n" for many, name in ((19, "p"), (19, "q"))]
        found = judge(told(one), told(other))
        self.assertEqual(len(ways_of(found.trees[call(1)])), 400)
        more = f"def f(a, /):\n{self.chain(20, 'q')}    return a\n"
        self.assertEqual(len(ways_of(tree(told(more), call(1)))), 21)
        self.raised(TooLarge, one, more)
        self.raised(TooLarge, more, one)
        self.raised(TooLarge, f"def f(a, /):\n{self.chain(59, 'p')}    return a\n", "def f(a, /):\n    if a:\n        return a\n    return a if ?q(a) else a\n")
        # An earlier use, and an earlier way, decide ahead of it.
        front = "def e():\n    return {}\n"
        self.assertEqual(judge(told(front.format("none") + one), told(front.format("()") + more)).use, call(0, name="e"))
        found = judge(told(one), told(more.replace("return a\n", "return none\n", 1)))
        self.assertEqual((found.use, found.place), (call(1), 0))

    def test_how_long_it_takes(self):
        letters = "abcdefgh"
        rows = "".join(f"    if {name}:\n        see ?p({name})\n    else:\n        see none\n" for name in letters)
        items = ", ".join(["none"] * 30)
        text = f"def f({', '.join(letters)}, /):\n{rows}    for i in ({items}):\n        see i\n"
        other = text.replace("see ?p(", "v = ?p(").replace(")\n    else:\n        see none", ")\n    else:\n        v = none\n    see v")
        begin = time.process_time()
        found = judge(told(text), told(other))
        self.assertEqual(len(ways_of(found.trees[call(8)])), 256)
        self.assertTrue(found.shows(told(text), told(other)))
        self.assertLess(time.process_time() - begin, 5)


if __name__ == "__main__":
    unittest.main()
