"""[5] raise, try, with: what takes what, and what takes the place of what."""

import unittest

from helping import END, WALK, WRONG, Doing, back, bad, given, see, world

CLASS = ('class c:\n    def make(self, a="c"):\n        self.a = a\n    def enter(self):\n        see ("enter", self.a)\n        return (self.a, "in")\n'
         '    def leave(self, e):\n        see ("leave", self.a, e)\n        return "no"\n')


class Raises(Doing):
    def test_values(self):
        self.sees(bad("bad"), "def f():\n    raise bad\n")
        self.sees(bad("bad"), "def f():\n    raise bad none\n")
        self.sees(bad("bad", ["t", 1]), 'def f(a):\n    raise bad ("t", a)\n', 1)
        self.sees(bad("any"), "def f():\n    raise any\n")
        self.sees(bad("wrong", "t"), 'def f():\n    raise wrong "t"\n')
        self.sees([WRONG], "def f():\n    raise bad none.x\n")

    def test_through_calls(self):
        text = 'def g(a):\n    h(a)\n    see "no"\ndef h(a):\n    raise bad a\ndef f():\n    try:\n        g("t")\n    except bad as e:\n        return (e, "taken")\n'
        self.sees(back(["t", "taken"]), text)


class Handlers(Doing):
    def test_own_kinds_and_any(self):
        text = ('def f():\n    try:\n        raise {}\n    except one as e:\n        see ("one", e)\n    except two:\n        see "two"\n'
                '    except any as e:\n        see ("any", e)\n    except three:\n        see "no"\n    return "t"\n')
        for line, events in (("one", see(["one", None])), ('one "x"', see(["one", "x"])), ("two", see("two")),
                             ("three", see(["any", None])), ('any "x"', see(["any", "x"])), ("wrong", see(["any", None]))):
            self.sees(events + back("t"), text.format(line))

    def test_the_first_one(self):
        self.sees(see("a") + back(), 'def f():\n    try:\n        raise bad\n    except any:\n        see "a"\n    except bad:\n        see "b"\n')
        self.sees(see("a") + back(), 'def f():\n    try:\n        raise bad\n    except bad:\n        see "a"\n    except bad:\n        see "b"\n')

    def test_other_kinds_go_on(self):
        self.sees(bad("bad", "t"), 'def f():\n    try:\n        raise bad "t"\n    except worse:\n        see "no"\n')
        self.sees(see("out") + back(), 'def f():\n    try:\n        try:\n            raise bad\n        except worse:\n            see "no"\n    except bad:\n        see "out"\n')
        # any is a kind like others for what raises it; only its handler takes all.
        self.sees(bad("any"), 'def f():\n    try:\n        raise any\n    except bad:\n        see "no"\n')

    def test_names_keep_the_value(self):
        self.sees(back("t"), 'def f():\n    try:\n        raise bad "t"\n    except bad as e:\n        pass\n    return e\n')

    def test_a_handler_is_not_for_handlers(self):
        self.sees(see("a") + bad("bad", "b"), 'def f():\n    try:\n        raise bad "a"\n    except bad as e:\n        see e\n        raise bad "b"\n    except any:\n        see "no"\n')

    def test_nothing_raised(self):
        self.sees(see("a") + back(), 'def f():\n    try:\n        see "a"\n    except any:\n        see "no"\n')
        self.sees(back("r"), 'def f():\n    try:\n        return "r"\n    except any:\n        see "no"\n')

    def test_what_is_behind_is_not_done(self):
        self.sees(see("a", "c") + back(), 'def f():\n    try:\n        see "a"\n        raise bad\n        see "b"\n    except bad:\n        see "c"\n')


class Finals(Doing):
    def test_behind_all_ends(self):
        text = 'def f():\n    try:\n        {}\n    except bad:\n        {}\n    finally:\n        see "last"\n    return "on"\n'
        for first, second, events in (
                ("pass", "pass", back("on")), ('return "r"', "pass", back("r")), ("raise bad", "pass", back("on")),
                ("raise worse", "pass", bad("worse")), ("raise bad", 'return "h"', back("h")), ("raise bad", "raise worse", bad("worse")),
                ("raise bad", "raise bad", bad("bad")), ("none()", "pass", [WRONG])):
            self.sees(see("last") + events, text.format(first, second))

    def test_they_take_the_place(self):
        text = 'def f():\n    try:\n        {}\n    finally:\n        {}\n    return "on"\n'
        for first in ("pass", 'return "r"', "raise bad", "none()"):
            self.sees(back("l"), text.format(first, 'return "l"'))
            self.sees(bad("worse", "l"), text.format(first, 'raise worse "l"'))
            self.sees([WRONG], text.format(first, "none.x"))

    def test_what_is_taken_within_them_does_not(self):
        text = 'def f():\n    try:\n        {}\n    finally:\n        try:\n            raise worse\n        except worse:\n            see "t"\n        for i in ("a", "b"):\n            see i\n'
        self.sees(see("t", "a", "b") + back("r"), text.format('return "r"'))
        self.sees(see("t", "a", "b") + bad("bad", "r"), text.format('raise bad "r"'))

    def test_within_one_another(self):
        text = ('def f():\n    try:\n        try:\n            raise bad "a"\n        finally:\n            try:\n                see "b"\n            finally:\n'
                '                see "c"\n    except bad as e:\n        see e\n    finally:\n        see "d"\n')
        self.sees(see("b", "c", "a", "d") + back(), text)

    def test_return_is_reckoned_before(self):
        text = 'def f():\n    x = "a"\n    try:\n        return x\n    finally:\n        x = "b"\n        see x\n'
        self.sees(see("b") + back("a"), text)

    def test_within_loops(self):
        text = 'def f():\n    for x in ("a", "b"):\n        try:\n            if x:\n                see x\n        finally:\n            see (x,)\n    for x in ("c", "d"):\n        try:\n            return x\n        finally:\n            see "l"\n'
        self.sees(see("a", ["a"], "b", ["b"], "l") + back("c"), text)

    def test_with_handlers_and_yields(self):
        text = 'def f():\n    try:\n        yield "a"\n        raise bad "r"\n    except bad as e:\n        yield e\n    finally:\n        yield "c"\n    yield "d"\n'
        self.sees([WALK] + given("a") + given("r") + given("c") + given("d") + [END], text)


class With(Doing):
    def test_in_order(self):
        text = CLASS + 'def f():\n    with c("k") as x:\n        see x\n    see (x, "on")\n'
        self.sees(see(["enter", "k"], ["k", "in"], ["leave", "k", None], [["k", "in"], "on"]) + back(), text)
        text = CLASS + 'def f():\n    with c():\n        see "in"\n'
        self.sees(see(["enter", "c"], "in", ["leave", "c", None]) + back(), text)

    def test_left(self):
        text = CLASS + "def f():\n    with c():\n        {}\n"
        for line, told, events in (('return "r"', None, back("r")), ('raise bad "t"', "bad", bad("bad", "t")),
                                   ("none()", "wrong", [WRONG]), ("raise a_b", "a_b", bad("a_b"))):
            self.sees(see(["enter", "c"], ["leave", "c", told]) + events, text.format(line))

    def test_within_one_another(self):
        text = CLASS + 'def f():\n    with c("a"):\n        with c("b"):\n            raise bad\n'
        self.sees(see(["enter", "a"], ["enter", "b"], ["leave", "b", "bad"], ["leave", "a", "bad"]) + bad("bad"), text)

    def test_within_try(self):
        text = CLASS + 'def f():\n    try:\n        with c():\n            raise bad "t"\n    except bad as e:\n        see e\n    finally:\n        see "last"\n'
        self.sees(see(["enter", "c"], ["leave", "c", "bad"], "t", "last") + back(), text)

    def test_what_leave_raises_takes_the_place(self):
        text = 'class c:\n    def enter(self):\n        pass\n    def leave(self, e):\n        raise worse (e, "l")\ndef f():\n    with c():\n        {}\n'
        for line, told in (("pass", None), ('return "r"', None), ("raise bad", "bad")):
            self.sees(bad("worse", [told, "l"]), text.format(line))

    def test_what_enter_raises(self):
        text = 'class c:\n    def enter(self):\n        raise bad "t"\n    def leave(self, e):\n        see "no"\ndef f():\n    with c():\n        see "no"\n'
        self.sees(bad("bad", "t"), text)

    def test_no_object(self):
        front = CLASS + "def g():\n    yield none\n"
        for told in ("none", '"t"', "()", "(c(),)", "?p()", "a", "c", "f", "g()", "c().enter", "n.u"):
            self.is_wrong(f"with {told}:\n    see \"no\"", "use n\n" + front, names=("a",), n="use m\nfrom m take n as u\n")

    def test_no_object_though_it_has_both(self):
        front = "use n\nclass c:\n    def enter():\n        see \"no\"\n    def leave(e):\n        see \"no\"\n"
        other = "use m\nfrom m take n as u\ndef enter():\n    see \"no\"\ndef leave(e):\n    see \"no\"\n"
        self.is_wrong("with c:\n    see \"no\"", front, n=other)
        self.is_wrong("with n.u:\n    see \"no\"", front, n=other)

    def test_within_a_for(self):
        text = CLASS + 'def f():\n    for x in ("a", "b"):\n        for y in ("p",):\n            with c(x) as z:\n                see (y, z)\n    return "r"\n'
        self.sees(see(["enter", "a"], ["p", ["a", "in"]], ["leave", "a", None], ["enter", "b"], ["p", ["b", "in"]], ["leave", "b", None])
                  + back("r"), text)

    def test_without_enter_or_leave(self):
        for rows in ("def enter(self):\n        see \"no\"\n", "def leave(self, e):\n        see \"no\"\n", "pass\n"):
            self.is_wrong("with c():\n    see \"no\"", f"class c:\n    {rows}")

    def test_enter_and_leave_that_do_not_fit(self):
        self.is_wrong('with c():\n    see "no"', 'class c:\n    def enter(self, a):\n        pass\n    def leave(self, e):\n        see "no"\n')
        self.is_wrong('with c():\n    see "no"', 'class c:\n    def enter():\n        pass\n    def leave(self, e):\n        see "no"\n')
        self.is_wrong('with c():\n    pass', 'class c:\n    def enter(self):\n        pass\n    def leave(self):\n        see "no"\n')
        text = 'class c:\n    def enter(self):\n        pass\n    def leave(self, e, g):\n        pass\ndef f():\n    with c():\n        see "in"\n        raise bad\n'
        self.sees(see("in") + [WRONG], text)

    def test_attributes_of_all_kinds(self):
        # Lets, fields and bases give them, too; they are looked up before enter is called.
        text = ('def e():\n    see "e"\n    return "x"\ndef l(a, b="b"):\n    see (a, b)\nclass d:\n    enter = e\n    leave = l\nclass c(d):\n    pass\n'
                'def f():\n    with c() as x:\n        see x\n')
        self.sees(see("e", "x", [None, "b"]) + back(), text)
        self.is_wrong('with c():\n    see "no"', 'class c:\n    enter = "t"\n    def leave(self, e):\n        see "no"\n')
        self.is_wrong('with c():\n    see "no"', 'class c:\n    def enter(self):\n        see "no"\n    leave = none.x\n')
        self.is_wrong('with c():\n    pass', 'class c:\n    def make(self):\n        self.leave = "t"\n    def enter(self):\n        pass\n    def leave(self, e):\n        see "no"\n')

    def test_classes_as_enter_and_leave(self):
        text = ('class e:\n    def make(self):\n        see "e"\n    x = "x"\nclass l:\n    def make(self, a):\n        see (a, "l")\nclass c:\n    enter = e\n    leave = l\n'
                'def f():\n    with c() as x:\n        see x.x\n')
        self.sees(see("e", "x", [None, "l"]) + back(), text)

    def test_generators_as_enter_and_leave(self):
        text = ('class c:\n    def enter(self):\n        yield "t"\n    def leave(self, e):\n        see "no"\n        yield none\ndef f():\n    with c() as x:\n'
                '        each i in x:\n            see i\n    return "on"\n')
        self.sees(see("t") + back("on"), text)

    def test_in_generators(self):
        text = CLASS + 'def f():\n    with c() as x:\n        yield x\n        yield "b"\n'
        self.sees([WALK] + see(["enter", "c"]) + given(["c", "in"]) + given("b") + see(["leave", "c", None]) + [END], text)
        self.sees([WALK] + see(["enter", "c"]) + given(["c", "in"]) + see(["leave", "c", None]) + [END], text, where=world(stop=1))

    def test_return_in_finals_in_with(self):
        text = CLASS + 'def f():\n    with c():\n        try:\n            raise bad\n        finally:\n            return "r"\n'
        self.sees(see(["enter", "c"], ["leave", "c", None]) + back("r"), text)


if __name__ == "__main__":
    unittest.main()
