"""[4], [5] Names, attributes, operations, calls, and what is wrong with them."""

from helping import END, NONE, WALK, WRONG, Doing, back, bad, given, see, world


class Expressions(Doing):
    def test_values(self):
        for told, found in (("none", None), ('"a b"', "a b"), ("()", []), ('(none, "t", ("u",))', [None, "t", ["u"]])):
            self.sees(back(found), f"def f():\n    return {told}\n")
            self.sees(see(found) + back(), f"def f():\n    see {told}\n")

    def test_operations(self):
        where = world(table={("p",): 7, ("p", 7): 8, ("p", "t", None, (7, ())): 9})
        self.sees(back([7, 8, 9, 0]), 'def f():\n    return (?p(), ?p(?p()), ?p("t", none, (?p(), ())), ?p(none))\n',
                  where=where)
        self.sees(back(0), "def f():\n    return ?q()\n", where=where)

    def test_attributes_of_terms(self):
        where = world(table={(".x", 1): 7, ("x", 1): 5, (".y", 7): 8})
        self.sees(back([7, 8]), "def f(a):\n    return (a.x, a.x.y)\n", 1, where=where)

    def test_choices_ask_for_one_condition(self):
        text = 'def f(a, b):\n    return "yes" if a else "no" if b else "none"\n'
        for truths, found in (((1, 2), "yes"), ((1,), "yes"), ((2,), "no"), ((), "none")):
            self.sees(back(found), text, 2, where=world(truths=truths))

    def test_truth(self):
        front = "use n\nclass c:\n    def get(self):\n        pass\ndef g():\n    yield none\n"
        for told, found in (('""', "no"), ('" "', "yes"), ('"t"', "yes"), ("none", "no"), ("()", "no"), ("(none,)", "yes"),
                            ("((),)", "yes"), ("g", "yes"), ("c", "yes"), ("c()", "yes"), ("g()", "yes"),
                            ("lambda: none", "yes"), ("c().get", "yes"), ("n.u", "yes")):
            self.sees(back(found), f'{front}def f():\n    return "yes" if ({told}) else "no"\n', n="use m\nfrom m take n as u\n")

    def test_the_condition_is_reckoned_first(self):
        front = "def s(a):\n    see a\n    return a\n"
        self.sees(see("b", "a") + back("a"), front + 'def f():\n    return s("a") if s("b") else s("c")\n')
        self.sees(see("", "c") + back("c"), front + 'def f():\n    return s("a") if s("") else s("c")\n')

    def test_from_left_to_right(self):
        front = "def s(a):\n    see a\n    return g\ndef g(a=none, b=none, c=none):\n    return a\n"
        self.sees(see("a", "b", "c") + back(), front + 'def f():\n    (s("a"), s("b"), (s("c"),))\n')
        self.sees(see("a", "b", "c", "d", "e") + back(), front + 'def f():\n    s("a")(s("b"), s("c"), c=(s("d"), s("e")))\n')
        self.sees(see("a", "b", "c", "d") + back(), front + 'def f():\n    s("a")(s("b"), c=s("c"), b=s("d"))\n')
        self.sees(see("a", "b") + [WRONG], front + 'def f():\n    ?p(s("a"), s("b"))\n')
        self.sees(see("a", "b") + back(), front + 'def f():\n    for i in (s("a"), s("b")):\n        pass\n')
        # What is called is not looked at before the arguments are there.
        self.sees(see("b", "c") + [WRONG], front + 'def f():\n    none(s("b"), k=s("c"))\n')


class Tops(Doing):
    def test_names_of_tops(self):
        text = ('use n\nfrom n take x as k\nfrom n take g as h\nfrom n take d as e\ny = ?p(k)\n'
                'def f():\n    return (n.x, k, y, h(), n.g(), e().x, n.d().x)\n')
        where = world(table={("p", 7): 8, ("q",): 7})
        self.sees(back([7, 7, 8, "g", "g", "d", "d"]), text, where=where,
                  n='x = ?q()\ndef g():\n    return "g"\nclass d:\n    x = "d"\n')

    def test_lets_are_reckoned_anew(self):
        # A generator or an object would be the same; a condition is asked each time, and wrong is raised each time.
        text = ('x = none.x\ndef f():\n    for i in ("a", "b"):\n        try:\n            x\n        except wrong:\n            see i\n')
        self.sees(see("a", "b") + back(), text)
        self.sees(back(), "x = none.x\ndef f():\n    return none\n")

    def test_modules_of_uses(self):
        self.sees(back("t"), "use n\ndef f():\n    return n.o.k.x\n", n="use o\n", o="from l take k as k\n",
                  l="use k\n", k='x = "t"\n')

    def test_rings_of_lets(self):
        for front, line in (("x = x\n", "x"), ("x = y\ny = (x,)\n", "x"), ("x = y\ny = (x,)\n", "y"),
                            ("x = ?p(y.n)\ny = x\n", "see y"), ("class c:\n    x = c.x\n", "c.x"),
                            ("class c:\n    x = d.y\nclass d:\n    y = c.x\n", "c().x"),
                            ("x = c.x\nclass c:\n    x = x\n", "x"), ("use m\nx = m.x\n", "x"),
                            ("x = none if x else none\n", "x")):
            self.is_wrong(line, front)

    def test_lets_that_are_no_rings(self):
        self.sees(back(["t", "t"]), 'x = (y, y)\ny = z\nz = "t"\ndef f():\n    return x\n')
        self.sees(back("t"), 'x = "t" if "t" else x\ndef f():\n    return x\n')
        self.sees(back("t"), 'x = c.x\nclass c:\n    x = y\ny = "t"\ndef f():\n    return x\n')
        # Reckoned again when it has been reckoned, also when it was left by wrong.
        self.sees(see("w") + back("w"), 'x = none.n\ndef f():\n    try:\n        x\n    except any:\n        see "w"\n'
                                        '    try:\n        return x\n    except wrong:\n        return "w"\n')

    def test_rings_of_takes(self):
        self.is_wrong("x", "from m take x as x\n")
        self.is_wrong("x", "from n take y as x\n", n="from m take x as y\n")
        self.is_wrong("x", "from n take y as x\nz = x\n", n="from m take z as y\n")
        self.is_wrong("n.y", "use n\nfrom n take y as x\n", n="from m take x as y\n")
        self.is_wrong("c()", "from m take d as x\nfrom m take x as d\nclass c(x):\n    pass\n")

    def test_attributes_of_modules(self):
        self.is_wrong("n.y", "use n\n", n="x = none\n")
        self.is_wrong("n.m.y", "use n\n", n="use m\n")
        self.is_wrong("n.x", "use n\n", n="x = none.y\n")
        self.sees(back("t"), "use n\ndef f():\n    return n.g()\ndef g():\n    pass\n", n='def g():\n    return "t"\n')


class Names(Doing):
    def test_given_nothing_yet(self):
        for line in ("x\nx = none", "if none:\n    x = none\nx", "x, y = (x, none)", "x = x",
                     "for x in ():\n    pass\nx", "try:\n    pass\nexcept bad as x:\n    pass\nx",
                     "x()\ndef x():\n    pass", "def g():\n    return x\ng()\nx = none",
                     "def g():\n    nonlocal x\n    see x\ng()\nx = none", "(lambda: x)()\nx = none",
                     "def g():\n    yield none\n    x = none\n    return x\ndef h():\n    return y\nh()\ny = none"):
            self.is_wrong(line)

    def test_not_the_name_of_the_top(self):
        self.is_wrong("see x\nx = none", 'x = "t"\n')
        self.sees(see("t") + back(), 'x = "t"\ndef f():\n    see x\n')

    def test_givings(self):
        for lines, found in (
                ('x = "a"', "a"), ('x, = ("a",)', "a"), ('y, x = ("b", "a")', "a"), ('for x in ("b", "a"):\n        pass', "a"),
                ('each x in g():\n        pass', "a"), ('with c() as x:\n        pass', "a"),
                ('try:\n        raise bad "a"\n    except bad as x:\n        pass', "a"),
                ('x = "a"\n    def h():\n        x = "b"\n    h()', "a"),
                ('x = "b"\n    def h():\n        nonlocal x\n        x = "a"\n    h()', "a"),
                ('def h():\n        nonlocal x\n        x = "a"\n    h()\n    if none:\n        x = none', "a")):
            text = ('class c:\n    def enter(self):\n        return "a"\n    def leave(self, e):\n        pass\n'
                    f'def g():\n    yield "b"\n    yield "a"\ndef f():\n    {lines}\n    return x\n')
            self.sees(back(found), text)

    def test_nonlocal_through_two(self):
        text = ('def f(a):\n    def g():\n        def h():\n            nonlocal a, b\n            a = "h"\n            b = a\n'
                '        b = "g"\n        h()\n        return b\n    return (g(), a)\n')
        self.sees(back(["h", "h"]), text, 1)

    def test_nonlocal_gives_by_all_ways(self):
        text = ('def f():\n    a = none\n    b = none\n    def g():\n        nonlocal a, b\n        {}\n    g()\n    return (a, b)\n')
        for lines, found in (('a, b = ("x", "y")', ["x", "y"]), ('for a in ("x",):\n            b = a', ["x", "x"]),
                             ('try:\n            raise bad "x"\n        except any as a:\n            pass', ["x", None]),
                             ('def h():\n            yield "x"\n        each a in h():\n            b = "z"', ["x", "z"])):
            self.sees(back(found), text.format(lines))

    def test_each_call_has_its_own(self):
        text = ('def g(a):\n    def h():\n        nonlocal a\n        a = (a, "h")\n        return a\n    return h\n'
                'def f():\n    h = g("x")\n    k = g("y")\n    return (h(), k(), h())\n')
        self.sees(back([["x", "h"], ["y", "h"], [["x", "h"], "h"]]), text)

    def test_lambdas_read_what_is_there_when_they_are_called(self):
        self.sees(back(["b", "a"]), 'def f():\n    x = "a"\n    g = lambda: x\n    h = lambda y=x: y\n    x = "b"\n    return (g(), h())\n')
        self.sees(back(["z", "q"]), 'def f(x):\n    g = lambda x: lambda y, *, k="q": (x, k)\n    return g("z")(none)\n', 1)


class Calls(Doing):
    def test_arguments_that_fit(self):
        front = 'def g(a, /, b, c="c", *, d, e="e"):\n    return (a, b, c, d, e)\n'
        for told, found in (('"x", "y", d="z"', ["x", "y", "c", "z", "e"]), ('"x", "y", "w", d="z"', ["x", "y", "w", "z", "e"]),
                            ('"x", b="y", d="z"', ["x", "y", "c", "z", "e"]), ('"x", e="v", d="z", c="w", b="y"', ["x", "y", "w", "z", "v"])):
            self.sees(back(found), f"{front}def f():\n    return g({told})\n")
            inner = front.replace("\n", "\n    ").rstrip()
            self.sees(back(found), f"def f():\n    {inner}\n    return g({told})\n")
            self.sees(back(found), 'def f():\n    g = lambda a, /, b, c="c", *, d, e="e": (a, b, c, d, e)\n    return g(' + told + ')\n')

    def test_arguments_that_do_not_fit(self):
        front = 'def g(a, /, b, c="c", *, d, e="e"):\n    see "done"\n'
        for told in ('', '"x", "y"', '"x", d="z"', '"x", "y", "w", "v", d="z"', '"x", "y", d="z", k="w"', 'a="x", b="y", d="z"',
                     '"x", "y", a="w", d="z"', '"x", "y", b="w", d="z"', '"x", "y", "w", "v"', '"x", "y", "w", c="c", d="d"',
                     'b="y", d="z"'):
            self.is_wrong(f"g({told})", front)
            inner = front.replace("\n", "\n    ").rstrip()
            self.sees([WRONG], f"def f():\n    {inner}\n    g({told})\n")
            self.is_wrong('(lambda a, /, b, c="c", *, d, e="e": none)(' + told + ')')

    def test_what_cannot_be_called(self):
        for told in ("none", '"t"', "()", "(f,)", "?p()", "a", "a.x", "c()", "g()", "c().x", "n.u"):
            self.is_wrong(f"({told})()", "use n\nclass c:\n    x = none\ndef g():\n    yield none\n", names=("a",), n="use m\nfrom m take n as u\n")

    def test_methods_and_functions_of_classes(self):
        front = 'class c:\n    def get(self, a):\n        return (a, self.k)\n    k = "k"\n    g = h\ndef h(*, a="h"):\n    return a\n'
        self.sees(back(["x", "k"]), front + 'def f():\n    return c().get("x")\n')
        self.sees(back(["x", "k"]), front + 'def f():\n    g = c().get\n    return g(a="x")\n')
        self.sees(back(["x", "k"]), front + 'def f():\n    return c.get(c(), "x")\n')
        self.sees(back(["x", "k"]), front + 'def f():\n    return c.get(a="x", self=c())\n')
        # What a let comes to is no method.
        self.sees(back(["h", "x"]), front + 'def f():\n    return (c().g(), c.g(a="x"))\n')
        for line in ('c.get("x")', 'c().get()', 'c().get("x", "y")', 'c().get("x", self=none)', 'c().g(none)'):
            self.is_wrong(line, front)

    def test_no_parameters_for_the_object(self):
        self.is_wrong("c().get()", "class c:\n    def get():\n        pass\n")
        self.is_wrong("c().get()", "class c:\n    def get(*, a=none):\n        pass\n")
        self.is_wrong("c()", "class c:\n    def make():\n        pass\n")
        self.sees(back("t"), 'class c:\n    def get():\n        return "t"\ndef f():\n    return c.get()\n')

    def test_what_comes_back(self):
        self.sees(back(), "def f():\n    pass\n")
        self.sees(back(), 'def f():\n    return\n    see "no"\n')
        self.sees(back("t"), 'def f():\n    for i in ("t", "u"):\n        return i\n')


class Defaults(Doing):
    def test_of_tops_in_each_call_that_leaves_them_out(self):
        text = ('def g(a=?p(), b=x):\n    return (a, b)\nx = ?q()\ndef f():\n    return (g(), g("a"), g(b="b"), g("a", "b"))\n')
        self.sees(back([[7, 8], ["a", 8], [7, "b"], ["a", "b"]]), text, where=world(table={("p",): 7, ("q",): 8}))

    def test_of_tops_are_wrong_in_the_call(self):
        front = 'def g(a=none.x, b=y):\n    see "done"\ny = y\n'
        self.is_wrong("g()", front)
        self.is_wrong('g("a")', front)
        self.is_wrong('g(b="b")', front)
        self.sees(see("done") + back(), front + 'def f():\n    g("a", "b")\n')
        # They are not reckoned, if the arguments do not fit; that is wrong, too.
        self.is_wrong("g(c=none)", front)

    def test_of_tops_see_names_of_the_top(self):
        text = 'a = "top"\ndef g(b, *, a="x", c=a):\n    return (a, c)\ndef f():\n    return g(none, a="y")\n'
        self.sees(back(["y", "top"]), text)

    def test_of_classes_in_each_call(self):
        text = ('class c:\n    def get(self, a=x):\n        return a\n    def make(self, b=x):\n        self.b = b\n    x = "no"\n'
                'x = ?p()\ndef f():\n    return (c().get(), c.get(none), c().b, c("t").b)\n')
        self.sees(back([7, 7, 7, "t"]), text, where=world(table={("p",): 7}))

    def test_of_a_generator_are_reckoned_in_its_call(self):
        front = 'def g(a=none.x):\n    see "done"\n    yield a\n'
        self.is_wrong("g()", front)
        self.sees(back(), front + 'def f():\n    g("t")\n')
        self.sees([WALK] + see("done") + given("t") + [END], front + 'def f():\n    return g("t")\n')

    def test_in_their_order(self):
        # The first one asks for a condition, the second one is wrong.
        text = 'def g(a="t" if x.n else none, b=none.y):\n    return a\nx = ?p()\ndef f():\n    g()\n'
        self.sees([WRONG], text)

    def test_of_inner_defs_when_they_are_done(self):
        text = ('def s(a):\n    see a\n    return a\ndef f():\n    x = "a"\n    def g(a=s(x), *, b=s("b"), c=s("c")):\n        return a\n'
                '    see "done"\n    x = "b"\n    return (g(), g("t"), g())\n')
        self.sees(see("a", "b", "c", "done") + back(["a", "t", "a"]), text)
        self.is_wrong("def g(a=x):\n    pass\nx = none")
        self.is_wrong("def g(a=none.x):\n    pass")

    def test_of_lambdas_when_they_are_reckoned(self):
        text = ('def s(a):\n    see a\n    return a\ndef f():\n    g = lambda a=s("a"), b=s("b"): (a, b)\n    see "done"\n    return (g(), g("t"))\n')
        self.sees(see("a", "b", "done") + back([["a", "b"], ["t", "b"]]), text)


class Plain(Doing):
    def test_operations_take_plain_values(self):
        front = "use n\nclass c:\n    def get(self):\n        pass\ndef g():\n    yield none\n"
        for told in ("f", "g", "c", "c()", "g()", "c().get", "c.get", "lambda: none", "n.u", "(f,)", "(none, (c(),))"):
            self.is_wrong(f"?p({told})", front, n="use m\nfrom m take n as u\n")
            self.is_wrong(f"?p(none, {told}, none)", front, n="use m\nfrom m take n as u\n")

    def test_attributes_of_other_values(self):
        front = "def g():\n    yield none\nclass c:\n    def get(self):\n        pass\n"
        for told in ("none", '"t"', "()", "(c,)", "f", "g()", "lambda: none", "c().get", "c.get"):
            self.is_wrong(f"({told}).x", front)

    def test_values_that_are_handed_on(self):
        # Not plain, and yet given, called, put in tuples, raised and taken.
        text = ('class c:\n    x = "x"\ndef g(a):\n    raise bad (a, c)\ndef f():\n    try:\n        g(lambda: "y")\n'
                '    except bad as e:\n        h, k = e\n        return (h(), k().x)\n')
        self.sees(back(["y", "x"]), text)


class Unpacked(Doing):
    def test_tuples_of_so_many(self):
        self.sees(back(["b", ["a"]]), 'def f():\n    a, b = (("a",), "b")\n    return (b, a)\n')
        for told in ("()", "(none,)", "(none, none, none)", "none", '"ab"', "?p()", "f", "a"):
            self.is_wrong(f"x, y = {told}", names=("a",))
        self.is_wrong("x, = ()")
        self.is_wrong("x, = (none, none)")

    def test_in_order(self):
        self.sees(back("b"), 'def f():\n    def g():\n        nonlocal x\n        y, x = ("a", "b")\n    x, y = ("c", "d")\n    g()\n    return x\n')


if __name__ == "__main__":
    import unittest
    unittest.main()
