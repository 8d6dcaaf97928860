"""[5], [6] Ring and Handed: what ends all doing."""

import unittest

from helping import END, NONE, WALK, WRONG, Doing, back, bad, given, see, world
from turnedparts.errors import Handed, PartsError, Ring


class Rings(Doing):
    def ring(self, number, text, module="m", use=("call", "m", "f", 0, ()), **modules):
        self.assertEqual(self.seen(text, use, **modules), ("ring", module, number), text)

    def test_error(self):
        self.assertEqual(Ring.__bases__, (PartsError,))

    def test_defs(self):
        self.ring(0, "def f():\n    f()\n")
        self.ring(2, "def g():\n    pass\ndef f():\n    g()\n    return f()\n")
        self.ring(2, "def f():\n    g()\ndef g():\n    h()\ndef h():\n    g()\n")
        self.ring(1, "x = f\ndef f():\n    x()\n")
        self.ring(1, "from n take g as f\n", module="n", n="use m\ndef g():\n    m.f()\n")
        self.ring(1, "use n\ndef f():\n    n.g()\n", module="m", n="from m take f as k\ndef g():\n    k()\n")

    def test_no_handler_takes_it(self):
        self.ring(0, "def f():\n    try:\n        f()\n    except any:\n        see none\n    finally:\n        return none\n")

    def test_it_may_not_come_to_it(self):
        self.sees(back(), "def f():\n    if none:\n        f()\n")
        self.sees(back(["t", "t"]), 'def f(a=none):\n    return "t"\ndef g():\n    return (f(), f(f()))\n', name="g")

    def test_inner_defs(self):
        self.ring(2, "def f():\n    pass\n    def g():\n        g()\n    g()\n")
        # The same def, also if it stands in another call of the one around it.
        self.ring(1, "def g(k):\n    def h():\n        k()\n    return h\ndef f():\n    g(g(none))()\n")

    def test_lambdas(self):
        self.ring(2, "def f():\n    x = none\n    x = lambda: x()\n    x()\n")
        self.ring(2, "def f():\n    pass\n    return (none, (lambda k: k(k))(lambda k: k(k)))\n")
        self.ring(1, "def f():\n    def g(k=lambda k: k(k)):\n        k(k)\n    g()\n")
        self.ring(2, "class c:\n    def get(self):\n        k = lambda k: k(k)\n        k(k)\n",
                  use=("method", "m", "c", 0, (), "get", 0, ()))
        # Two of one statement are two.
        self.sees(back("t"), 'def f():\n    return (lambda k: k())(lambda: "t")\n')

    def test_numbers_behind_each_kind_of_statement(self):
        for lines, size in (("x = none", 1), ("x, = none", 1), ("return", 1), ("return none", 1), ("raise bad", 1), ("raise bad none", 1), ("see none", 1),
                            ("none", 1), ("pass", 1), ("yield none", 1), ("if a:\n            pass", 2), ("if a:\n            pass\n        else:\n            pass", 3),
                            ("for x in ():\n            pass", 2), ("each x in a:\n            pass", 2), ("with a:\n            pass", 2),
                            ("with a as x:\n            pass", 2), ("def x():\n            pass\n            pass", 3),
                            ("def x():\n            nonlocal a\n            pass", 3),
                            ("try:\n            pass\n        except bad:\n            pass\n            pass\n        except any as x:\n            pass", 5),
                            ("try:\n            pass\n        finally:\n            pass\n            pass", 4),
                            ("try:\n            pass\n        except bad:\n            pass\n        finally:\n            pass", 4)):
            text = f"def g(a):\n    if none:\n        {lines}\n    k = lambda: k()\n    k()\ndef f():\n    return g(none)\n"
            if "yield" in lines:
                self.ring(2 + size, text, use=("call", "m", "g", 1, ()))
            else:
                self.ring(2 + size, text)
        text = "class c:\n    def make(self):\n        self.x = none\n        k = lambda: k()\n        k()\ndef f():\n    c()\n"
        self.ring(3, text)

    def test_lambdas_of_later_statements(self):
        text = ("def f():\n    if none:\n        pass\n    else:\n        try:\n            pass\n        finally:\n            k = lambda: k()\n    k()\n")
        self.ring(5, text)

    def test_methods(self):
        self.ring(1, "class c:\n    def get(self):\n        self.get()\ndef f():\n    c().get()\n")
        self.ring(1, "class c:\n    def make(self):\n        c()\ndef f():\n    c()\n")
        self.ring(3, "class c:\n    def get(self):\n        self.put()\n    def put(self):\n        d().put()\nclass d(c):\n    pass\ndef f():\n    c().put()\n")
        self.ring(3, "class c:\n    def enter(self):\n        pass\n    def leave(self, e):\n        with self:\n            pass\ndef f():\n    with c():\n        pass\n")

    def test_arguments_that_do_not_fit_are_wrong(self):
        self.sees([WRONG], "def f():\n    f(none)\n")

    def test_generators(self):
        # Called while it is being done, or gone through while one of it is being done.
        self.ring(0, "def f():\n    yield none\n    f()\n")
        self.ring(0, "def g():\n    g()\n    yield none\ndef f():\n    each x in g():\n        pass\n")
        self.ring(0, "def g(w):\n    each x in w:\n        yield x\ndef f():\n    each x in g(g(none)):\n        pass\n")
        self.sees([WALK, END], "def f():\n    yield none\n    f()\n", where=world(stop=0))
        self.sees([WALK] + given(None) + [END], "def f():\n    yield none\n    f()\n", where=world(stop=1))

    def test_waiting_generators_are_not_being_done(self):
        text = 'def g(k):\n    yield k\ndef f():\n    each x in g("a"):\n        each y in g("b"):\n            g("c")\n            see (x, y)\n'
        self.sees(see(["a", "b"]) + back(), text)
        text = 'def g(k):\n    yield k\ndef h():\n    each x in g("a"):\n        yield x\ndef f():\n    each x in h():\n        each y in g(x):\n            see y\n'
        self.sees(see("a") + back(), text)

    def test_closing_is_doing(self):
        text = 'def g():\n    try:\n        yield none\n    finally:\n        g()\ndef f():\n    each x in g():\n        return none\n'
        self.ring(0, text)


class HandedOut(Doing):
    VALUES = ("f", "c", "c()", "g()", "c().get", "c.get", "lambda: none", "n.u", "(f,)", "(none, (c(),))")
    FRONT = "use n\ndef g():\n    yield none\nclass c:\n    def get(self):\n        pass\n"

    def handed(self, kind, text, use=("call", "m", "f", 0, ()), where=None):
        self.assertEqual(self.seen(self.FRONT + text, use, where, n="use m\nfrom m take n as u\n"), ("handed", kind), text)

    def test_error(self):
        self.assertEqual(Handed.__bases__, (PartsError,))

    def test_see(self):
        for told in self.VALUES:
            self.handed("see", f"def f():\n    see {told}\n")
            self.handed("see", f"def f():\n    try:\n        see {told}\n    except any:\n        pass\n    finally:\n        return none\n")

    def test_back(self):
        for told in self.VALUES:
            if told != "g()":
                self.handed("back", f"def f():\n    return {told}\n")
        self.handed("back", "def f():\n    return (g(),)\n")

    def test_raise(self):
        for told in self.VALUES:
            self.handed("raise", f"def f():\n    raise bad {told}\n")
            self.handed("raise", f"def f():\n    yield none\n    raise bad {told}\n")
        self.handed("raise", "def f():\n    try:\n        yield none\n    finally:\n        raise bad f\n", where=world(stop=1))

    def test_yield(self):
        for told in self.VALUES:
            self.handed("yield", f"def f():\n    yield {told}\n")
            self.assertEqual(self.seen(self.FRONT + f"def f():\n    yield {told}\n", ("call", "m", "f", 0, ()), world(stop=0), n="use m\nfrom m take n as u\n"), [WALK, END])

    def test_reads(self):
        for line in ("x = f", "x = c", "x = (f,)", "x = c.get", "x = n.u"):
            self.handed("back", f"def f():\n    pass\n{line}\n", use=("read", "m", "x"))

    def test_what_stays_inside(self):
        for told in self.VALUES:
            text = self.FRONT + f"def h():\n    yield {told}\ndef f():\n    try:\n        each x in h():\n            raise bad x\n    except bad as e:\n        pass\n"
            self.sees(back(), text, n="use m\nfrom m take n as u\n")


if __name__ == "__main__":
    unittest.main()
