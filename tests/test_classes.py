"""[5] Classes and objects: makes, fields, bases, and what is wrong with them."""

import unittest

from helping import WRONG, Doing, back, see, world
from turnedparts.outside import seen, uses
from turnedparts.reading import read_module


class Objects(Doing):
    def test_make(self):
        text = ('class c:\n    def make(self, a, *, b="b"):\n        self.x = a\n        self.y = (b, self)\n        return "no"\n'
                'def f():\n    o = c("a")\n    p = c(b="q", a=o.x)\n    y, z = p.y\n    return (o.x, p.x, y, z.x)\n')
        self.sees(back(["a", "a", "q", "a"]), text)

    def test_make_that_does_not_fit(self):
        front = "class c:\n    def make(self, a):\n        see a\nclass d:\n    pass\nclass e(d):\n    pass\n"
        for told in ("c()", 'c("a", "b")', 'c("a", self=none)', 'c(b="b")', 'd("a")', 'd(a="a")', 'e("a")', "e(k=none)"):
            self.is_wrong(told, front)
        self.sees(see("a") + back(), front + 'def f():\n    c("a")\n    d()\n    e()\n')

    def test_make_is_only_called_by_the_class(self):
        self.sees(back("t"), 'make = "t"\nclass c:\n    pass\ndef f():\n    c()\n    return make\n')

    def test_make_that_raises(self):
        text = 'class c:\n    def make(self):\n        self.x = none\n        raise bad "t"\ndef f():\n    try:\n        o = c()\n    except bad as e:\n        return e\n'
        self.sees(back("t"), text)
        self.is_wrong("try:\n    o = c()\nexcept bad:\n    pass\no", "class c:\n    def make(self):\n        raise bad\n")

    def test_fields_come_before_what_the_class_has(self):
        front = ('class c:\n    def make(self, a):\n        if a:\n            self.get = a\n            self.x = a\n    def get(self):\n'
                 '        return "m"\n    x = "l"\n')
        self.sees(back(["a", "a"]), front + 'def f():\n    o = c("a")\n    return (o.x, o.get)\n')
        self.sees(back(["l", "m"]), front + 'def f():\n    o = c("")\n    return (o.x, o.get())\n')
        self.is_wrong('c("a").get()', front)

    def test_set_in_the_order_of_python(self):
        text = ('class c:\n    def make(self):\n        self.x = "a"\n        self.x = (self.x, "b")\n        if self.x:\n            self.y = self.x\n'
                'def f():\n    return c().y\n')
        self.sees(back(["a", "b"]), text)

    def test_values_of_fields(self):
        front = ("use n\nclass d:\n    def get(self):\n        pass\ndef g():\n    yield none\n"
                 "class c:\n    def make(self, a):\n        self.x = a\n")
        for told in ("none", '"t"', "?p()", "(none, ?p())", "c(none)", "(d(), (c(none), none))", "()"):
            self.sees(see("t") + back(), front + f'def f():\n    o = c({told})\n    o.x\n    see "t"\n', n="")
        for told in ("d", "g", "g()", "d().get", "d.get", "lambda: none", "n.u", "(d,)", "(none, (d(), g))"):
            self.is_wrong(f"c({told})", front, n="use m\nfrom m take n as u\n")

    def test_objects_within_themselves(self):
        text = ('class c:\n    def make(self):\n        self.x = (self, "t")\ndef f():\n    a, b = c().x\n    d, e = a.x\n    return (b, e)\n')
        self.sees(back(["t", "t"]), text)

    def test_attributes_that_are_not_there(self):
        front = "class d:\n    y = none\nclass c(d):\n    def make(self):\n        self.x = none\n"
        for told in ("c().z", "c.z", "c.x", "d().x", "d.z"):
            self.is_wrong(told, front)

    def test_lets_are_reckoned_anew(self):
        where = world(table={("p",): 7})
        self.sees(back([7, 7]), "class c:\n    x = ?p()\ndef f():\n    return (c.x, c().x)\n", where=where)
        self.is_wrong("c().x", "class c:\n    x = none.y\n")
        self.sees(back("t"), 'x = "t"\nclass c:\n    y = x\n    x = "no"\ndef f():\n    return c().y\n')


class Bases(Doing):
    def test_the_first_that_has_it(self):
        front = ('class a:\n    x = "a"\nclass b(a):\n    y = "b"\nclass d:\n    x = "d"\n    y = "d"\n    z = "d"\n'
                 'class c(b, d):\n    z = "c"\n')
        for name, told in (("x", "a"), ("y", "b"), ("z", "c")):
            self.sees(back([told, told]), f"{front}def f():\n    return (c.{name}, c().{name})\n")
        # Not as in Python: b's base a comes before d, even where d's base is a, too.
        front = 'class a:\n    x = "a"\nclass b(a):\n    pass\nclass d(a):\n    x = "d"\nclass c(b, d):\n    pass\n'
        self.sees(back("a"), front + "def f():\n    return c.x\n")

    def test_methods_of_bases(self):
        text = ('class a:\n    def get(self, k="k"):\n        return (self.x, k)\nclass c(a):\n    def make(self):\n        self.x = "c"\n'
                'def f():\n    return (c().get(), c.get(c(), "l"))\n')
        self.sees(back([["c", "k"], ["c", "l"]]), text)

    def test_make_of_bases(self):
        text = ('class a:\n    def make(self, k):\n        self.x = k\nclass b:\n    def make(self):\n        self.x = "no"\n'
                'class c(a, b):\n    pass\ndef f():\n    return c("t").x\n')
        self.sees(back("t"), text)
        self.is_wrong("c()", "class a:\n    def make(self, k):\n        pass\nclass c(a):\n    pass\n")

    def test_lets_and_defaults_of_bases_stand_in_their_module(self):
        text = 'use n\nx = "m"\nclass c(n.a):\n    pass\ndef f():\n    return (c.y, c().get())\n'
        self.sees(back(["n", "n"]), text, n='x = "n"\nclass a:\n    y = x\n    def get(self, k=x):\n        return k\n')

    def test_ways_to_bases(self):
        text = 'use n\nfrom n take a as b\nfrom k take n as o\nclass c({}):\n    pass\ndef f():\n    return c.x\n'
        for base in ("n.a", "b", "o.a", "o.e", "n.e"):
            self.sees(back("t"), text.format(base), n='class a:\n    x = "t"\nfrom m take b as e\n', k="use n\n")

    def test_no_bases(self):
        front = 'use n\ng = d\nclass d:\n    x = "t"\n    e = d\ndef h():\n    pass\nclass c({}):\n    y = "y"\n'
        for base in ("g", "h", "d.e", "d.x", "n.g", "n.z", "h.x", "n.n", "g.x"):
            for told in ("c.x", "c().x", "c()"):
                self.is_wrong(told, front.format(base), n='g = none\nuse n\n')
            # It is not looked through for what is found before.
            self.sees(back(["y", "t"]), front.format("d, " + base) + "def f():\n    return (c.y, c.x)\n", n="g = none\nuse n\n")
            self.is_wrong("c.z", front.format("d, " + base), n="g = none\nuse n\n")
        for base in ("a", "a.x", "d, a.x"):
            self.is_wrong("c.x", f"from m take b as a\nfrom m take a as b\nclass d:\n    pass\nclass c({base}):\n    pass\n")

    def test_rings_of_bases(self):
        self.is_wrong("c.x", "class c(c):\n    y = none\n")
        self.is_wrong("c()", "class c(c):\n    y = none\n")
        self.sees(back(["b", "d"]), 'class b(d):\n    x = "b"\nclass d(b):\n    y = "d"\ndef f():\n    return (d.x, b.y)\n')
        for told in ("b.z", "d.z", "c.z", "b()", "d()", "c()"):
            self.is_wrong(told, 'class b(d):\n    x = "b"\nclass d(b):\n    y = "d"\nclass c(b):\n    pass\n')
        # The same base twice, or by two ways, is no ring.
        self.sees(back("t"), 'class a:\n    pass\nclass b(a, a):\n    pass\nclass d:\n    x = "t"\nclass c(a, b, d):\n    pass\ndef f():\n    return c().x\n')

    def test_many_bases(self):
        # Each class has the one before twice: all ways would be too many to go.
        rows = ["class a:\n    pass\n"]
        names = ["a"] + ["c" + chr(97 + at // 26) + chr(97 + at % 26) for at in range(90)]
        for last, name in zip(names, names[1:]):
            rows.append(f"class {name}({last}, {last}):\n    pass\n")
        self.program("".join(rows), {})
        program = {"m": read_module("".join(rows) + f"x = {names[-1]}.y\n")}
        self.assertEqual(seen(program, ("read", "m", "x"), world()), [WRONG])

    def test_long_chains_of_bases_and_takes(self):
        names = ["c" + chr(97 + at // 26) + chr(97 + at % 26) for at in range(99)]
        rows = [f"class {name}({other}):\n    pass\n" for name, other in zip(names, names[1:])]
        program = {}
        for at, module in enumerate("abcdefgh"):
            front = f"from {'abcdefgh'[at + 1]} take {names[0]} as {names[-1]}\n" if at < 7 else f"class {names[-1]}:\n    x = \"t\"\n"
            program[module] = read_module(front + "".join(rows[:-1]) + rows[-1])
        program["a"] = (*program["a"], *read_module(f"k = {names[0]}.x\n"))
        self.assertEqual(seen(program, ("read", "a", "k"), world()), back("t"))
        self.assertEqual(seen(program, ("read", "a", names[0]), world()), [("back", ("class",))])
        self.assertGreater(len(uses(program)), 700)


if __name__ == "__main__":
    unittest.main()
