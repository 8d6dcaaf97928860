"""[5] Generators: for, each and leaving it, what is closed, and what is wrong with them."""

import unittest

from helping import END, WALK, WRONG, Doing, back, bad, given, see, world

TWO = 'def g():\n    see "one"\n    yield "a"\n    see "two"\n    yield "b"\n    see "three"\n'
SAFE = 'def g():\n    try:\n        yield "a"\n        yield "b"\n    finally:\n        see "last"\n'


class Loops(Doing):
    def test_for_reckons_all_items_first(self):
        text = 'def s(a):\n    see a\n    return (a, "s")\ndef f():\n    for x in (s("a"), s("b")):\n        see x\n    return x\n'
        self.sees(see("a", "b", ["a", "s"], ["b", "s"]) + back(["b", "s"]), text)
        self.sees(see("a") + [WRONG], 'def s(a):\n    see a\ndef f():\n    for x in (s("a"), none.n, s("b")):\n        see x\n')
        self.sees(back(), "def f():\n    for x in ():\n        x\n")

    def test_items_in_a_for_of_a_for(self):
        text = 'def f():\n    for x in ("a", "b"):\n        for x in ("c", x):\n            see x\n        see (x,)\n'
        self.sees(see("c", "a", ["a"], "c", "b", ["b"]) + back(), text)

    def test_leaving_a_for(self):
        text = ('def f():\n    for x in ("a", "b"):\n        try:\n            for y in ("c", "d"):\n                raise bad (x, y)\n'
                '        except bad as e:\n            see e\n    for x in ("p", "q"):\n        return x\n')
        self.sees(see(["a", "c"], ["b", "c"]) + back("p"), text)

    def test_each(self):
        self.sees(see("one", ["a"], "two", ["b"], "three", "b") + back(), TWO + "def f():\n    each x in g():\n        see (x,)\n    see x\n")
        self.sees(see("one", "two", "three") + back(), TWO + "def f():\n    each x in g():\n        pass\n")

    def test_what_yields(self):
        # One yield within a statement is enough, one in an inner def is not.
        for line in ("if none:\n        yield none", "for i in ():\n        yield none",
                     "try:\n        pass\n    except bad:\n        yield none", "try:\n        pass\n    finally:\n        if none:\n            yield none",
                     "if none:\n        pass\n    else:\n        if none:\n            yield none"):
            self.sees(see("f") + back("t"), f'def g():\n    see "done"\n    {line}\ndef f():\n    see "f"\n    g()\n    return "t"\n')
        self.sees(see("done") + back("t"), 'def g():\n    see "done"\n    def h():\n        yield none\n    return "t"\ndef f():\n    return g()\n')

    def test_a_call_does_nothing_of_the_block(self):
        self.sees(see("f") + back(), TWO + 'def f():\n    x = g()\n    see "f"\n')

    def test_return_of_a_generator(self):
        text = 'def s(a):\n    see a\ndef g():\n    yield "a"\n    return s("r")\n    yield "b"\ndef f():\n    each x in g():\n        see x\n'
        self.sees(see("a", "r") + back(), text)

    def test_arguments_of_a_generator(self):
        text = 'def g(a, *, b):\n    yield a\n    b = (b, a)\n    yield b\ndef f():\n    x = g(b="b", a="a")\n    y = g("c", b="d")\n    each i in x:\n        each j in y:\n            see (i, j)\n'
        self.sees(see(["a", "c"], ["a", ["d", "c"]]) + back(), text)

    def test_generators_that_share_names(self):
        text = ('def f():\n    k = "a"\n    def g():\n        nonlocal k\n        yield k\n        k = (k, "g")\n        yield k\n    each x in g():\n'
                '        see x\n        k = "b"\n    return k\n')
        self.sees(see("a", ["b", "g"]) + back("b"), text)

    def test_done_and_closed_ones_have_nothing_more(self):
        self.sees(see("one", "a", "two", "b", "three", "on") + back(), TWO + 'def f():\n    w = g()\n    each x in w:\n        see x\n    see "on"\n    each x in w:\n        see x\n')
        text = SAFE + ('def f():\n    w = g()\n    try:\n        each x in w:\n            raise bad\n    except bad:\n        see "left"\n'
                       '    each x in w:\n        see x\n    see x\n')
        self.sees(see("last", "left", "a") + back(), text)
        text = 'def g():\n    yield "a"\n    raise bad\ndef f():\n    w = g()\n    try:\n        each x in w:\n            see x\n    except bad:\n        each x in w:\n            see x\n    return "t"\n'
        self.sees(see("a") + back("t"), text)

    def test_each_over_no_generator(self):
        front = TWO + "class c:\n    pass\n"
        for told in ("none", '"ab"', "()", '(g(),)', "?p()", "g", "c()", "c", "a", "lambda: g()"):
            self.is_wrong(f"each x in {told}:\n    see x", front, names=("a",))

    def test_what_raises_in_a_generator(self):
        text = 'def g():\n    yield "a"\n    raise bad "t"\ndef f():\n    try:\n        each x in g():\n            see x\n    except bad as e:\n        return e\n'
        self.sees(see("a") + back("t"), text)
        # The each is not left then: the generator is done, and nothing of it is closed.
        text = SAFE.replace('yield "b"', 'raise worse') + 'def f():\n    each x in g():\n        see x\n'
        self.sees(see("a", "last") + bad("worse"), text)

    def test_what_raises_in_the_block_is_not_taken_in_the_generator(self):
        text = ('def g():\n    try:\n        yield "a"\n    except any as e:\n        see "no"\n    finally:\n        see "last"\ndef f():\n'
                '    each x in g():\n        raise bad "t"\n')
        self.sees(see("last") + bad("bad", "t"), text)

    def test_handlers_in_a_generator_go_on(self):
        text = ('def g():\n    try:\n        yield "a"\n        raise bad "r"\n    except bad as e:\n        yield e\n    yield "c"\n'
                'def f():\n    each x in g():\n        see x\n')
        self.sees(see("a", "r", "c") + back(), text)


class Left(Doing):
    LEAVE = ('return "r"', 'raise bad "r"')

    def left(self, generator, events, after=None):
        """See what leaving an each of a generator g by return and by raise brings."""
        for line in self.LEAVE:
            end = after if after is not None else (back("r") if line.startswith("return") else bad("bad", "r"))
            text = f'{generator}def f():\n    each x in g():\n        see x\n        {line}\n'
            self.sees(see("a") + events + end, text)

    def test_finals_are_done(self):
        self.left(SAFE, see("last"))
        self.left('def g():\n    try:\n        try:\n            yield "a"\n        finally:\n            see "in"\n    finally:\n        see "out"\n', see("in", "out"))
        self.left('def g():\n    try:\n        pass\n    finally:\n        yield "a"\n        see "no"\n', [])
        self.left('def g():\n    try:\n        raise worse\n    except worse:\n        yield "a"\n    finally:\n        see "last"\n', see("last"))
        self.left('def g():\n    if "t":\n        for i in ("i",):\n            try:\n                yield "a"\n            finally:\n                see i\n', see("i"))

    def test_nothing_behind_the_yield_is_done(self):
        self.left('def g():\n    yield "a"\n    see "no"\n', [])

    def test_no_handler_takes_it(self):
        self.left('def g():\n    try:\n        yield "a"\n    except any:\n        see "no"\n    except wrong:\n        see "no"\n', [])
        self.left('def g():\n    try:\n        yield "a"\n    except any:\n        see "no"\n    finally:\n        see "last"\n', see("last"))

    def test_leaves_are_called_with_none(self):
        text = ('class c:\n    def enter(self):\n        see "enter"\n    def leave(self, e):\n        see ("leave", e)\n'
                'def g():\n    with c():\n        yield "a"\n')
        for line in self.LEAVE:
            end = back("r") if line.startswith("return") else bad("bad", "r")
            self.sees(see("enter", "a", ["leave", None]) + end, f'{text}def f():\n    each x in g():\n        see x\n        {line}\n')

    def test_a_raise_of_the_generator_takes_the_place(self):
        self.left('def g():\n    try:\n        yield "a"\n    finally:\n        raise worse "w"\n', [], bad("worse", "w"))
        self.left('def g():\n    try:\n        yield "a"\n    finally:\n        none()\n', [], [WRONG])
        self.left('class c:\n    def enter(self):\n        pass\n    def leave(self, e):\n        raise worse e\ndef g():\n    with c():\n        yield "a"\n',
                  [], bad("worse"))

    def test_and_is_taken_where_the_each_stands(self):
        text = ('def g():\n    try:\n        yield "a"\n    finally:\n        raise worse "w"\ndef f():\n    try:\n        each x in g():\n            {}\n'
                '    except worse as e:\n        see e\n    return "t"\n')
        for line in self.LEAVE:
            self.sees(see("w") + back("t"), text.format(line))

    def test_a_return_in_finals_does_not(self):
        self.left('def g():\n    try:\n        yield "a"\n    finally:\n        return "no"\n', [])
        self.left('def g():\n    try:\n        try:\n            yield "a"\n        finally:\n            return "no"\n    finally:\n        see "last"\n', see("last"))
        self.left('def g():\n    try:\n        try:\n            yield "a"\n        finally:\n            raise worse\n    finally:\n        return\n', [])

    def test_a_raise_in_finals_is_taken_in_the_generator(self):
        # Then it goes on there to its end, as in Python; yields of it are still wrong.
        self.left('def g():\n    try:\n        try:\n            yield "a"\n        finally:\n            raise worse "w"\n    except worse as e:\n'
                  '        see e\n    see "on"\n', see("w", "on"))
        self.left('def g():\n    try:\n        try:\n            yield "a"\n        finally:\n            raise worse "w"\n    except worse as e:\n'
                  '        see e\n    yield "b"\n    see "no"\n', see("w"), [WRONG])

    def test_a_yield_meanwhile_is_wrong(self):
        self.left('def g():\n    try:\n        yield "a"\n    finally:\n        see "last"\n        yield "b"\n        see "no"\n', see("last"), [WRONG])
        for kind in ("wrong", "any"):
            self.left('def g():\n    try:\n        yield "a"\n    finally:\n        try:\n            yield "b"\n        except ' + kind +
                      ' as e:\n            see (e, "taken")\n        see "on"\n    see "no"\n', see([None, "taken"], "on"))
        # A handler around all of it takes it, too.
        self.left('def g():\n    try:\n        try:\n            yield "a"\n        finally:\n            yield "b"\n    except wrong:\n        see "w"\n', see("w"))
        # What it would yield is reckoned first.
        self.left('def s(a):\n    see a\ndef g():\n    try:\n        yield "a"\n    finally:\n        yield s("y")\n', see("y"), [WRONG])

    def test_yields_of_other_generators_meanwhile(self):
        self.left('def h():\n    yield "h"\n    yield "k"\ndef g():\n    try:\n        yield "a"\n    finally:\n        each y in h():\n            see y\n', see("h", "k"))
        self.left('def h():\n    try:\n        yield "h"\n    finally:\n        see "closed"\ndef g():\n    try:\n        yield "a"\n    finally:\n'
                  '        each y in h():\n            yield y\n', see("closed"), [WRONG])

    def test_inner_ones_are_closed_first(self):
        front = 'def h():\n    try:\n        yield "a"\n    finally:\n        see "h"\n'
        self.left(front + 'def g():\n    try:\n        each y in h():\n            yield y\n        see "no"\n    finally:\n        see "g"\n', see("h", "g"))
        self.left(front + 'def g():\n    each y in h():\n        try:\n            yield y\n        finally:\n            see "g"\n', see("g", "h"))
        # What the inner one raises takes the place of the closing of the outer one.
        front = 'def h():\n    try:\n        yield "a"\n    finally:\n        raise worse "h"\n'
        self.left(front + 'def g():\n    try:\n        each y in h():\n            yield y\n    except worse as e:\n        see e\n    see "on"\n', see("h", "on"))
        self.left(front + 'def g():\n    each y in h():\n        yield y\n', [], bad("worse", "h"))

    def test_several_are_closed_from_inside_out(self):
        text = ('def g(a):\n    try:\n        yield a\n    finally:\n        see a\ndef f():\n    each x in g("p"):\n        each y in g("q"):\n            {}\n')
        for line in self.LEAVE:
            end = back("r") if line.startswith("return") else bad("bad", "r")
            self.sees(see("q", "p") + end, text.format(line))

    def test_finals_around_the_each(self):
        text = SAFE + 'def f():\n    try:\n        each x in g():\n            return s(x)\n    finally:\n        see "f"\ndef s(a):\n    see a\n    return "r"\n'
        self.sees(see("a", "last", "f") + back("r"), text)

    def test_left_by_a_raise_in_a_handler_or_finals(self):
        text = SAFE + 'def f():\n    each x in g():\n        try:\n            raise bad\n        except bad:\n            raise worse\n        finally:\n            see "in"\n'
        self.sees(see("in", "last") + bad("worse"), text)
        text = SAFE + 'def f():\n    each x in g():\n        try:\n            raise bad\n        finally:\n            return "r"\n'
        self.sees(see("last") + back("r"), text)

    def test_what_is_taken_within_the_block_does_not_leave_it(self):
        text = SAFE + 'def f():\n    each x in g():\n        try:\n            raise bad\n        except bad:\n            see x\n'
        self.sees(see("a", "b", "last") + back(), text)

    def test_it_is_left_alone_if_nobody_goes_through_it(self):
        self.sees(back("r"), SAFE + 'def f():\n    w = g()\n    return "r"\n')


class GoneThrough(Doing):
    def test_one_that_is_being_gone_through(self):
        front = SAFE + 'def s():\n    see "s"\n'
        text = front + 'def f():\n    w = g()\n    each x in w:\n        try:\n            each y in w:\n                see "no"\n        except wrong as e:\n            see x\n'
        self.sees(see("a", "b", "last") + back(), text)
        text = front + 'def f():\n    w = g()\n    each x in w:\n        each y in w:\n            see "no"\n'
        self.sees(see("last") + [WRONG], text)
        # By a generator that goes through it in turn.
        text = ('def h(w):\n    each x in w:\n        yield x\n' + SAFE + 'def f():\n    w = g()\n    each x in h(w):\n        see x\n        each y in w:\n            see "no"\n')
        self.sees(see("a", "last") + [WRONG], text)

    def test_one_that_goes_through_itself(self):
        text = 'def f():\n    def g():\n        yield "a"\n        each y in w:\n            see "no"\n    w = g()\n    each x in w:\n        see x\n'
        self.sees(see("a") + [WRONG], text)

    def test_one_that_is_being_closed(self):
        text = ('def f():\n    def g():\n        try:\n            yield "a"\n        finally:\n            each y in w:\n                see "no"\n'
                '    w = g()\n    each x in w:\n        return x\n')
        self.sees([WRONG], text)

    def test_two_of_the_same_def(self):
        text = 'def g(a):\n    yield a\n    yield (a,)\ndef f():\n    each x in g("p"):\n        each y in g("q"):\n            see (x, y)\n'
        self.sees(see(["p", "q"], ["p", ["q"]], [["p"], "q"], [["p"], ["q"]]) + back(), text)


class Outside(Doing):
    FRONT = 'def f():\n    try:\n        yield "a"\n        yield "b"\n        see "end"\n    finally:\n        see "last"\n'

    def test_goes_on(self):
        for stop in (None, 3, 9):
            self.sees([WALK] + given("a") + given("b") + see("end", "last") + [END], self.FRONT, where=world(stop=stop))

    def test_stops(self):
        self.sees([WALK, END], self.FRONT, where=world(stop=0))
        self.sees([WALK] + given("a") + see("last") + [END], self.FRONT, where=world(stop=1))
        self.sees([WALK] + given("a") + given("b") + see("last") + [END], self.FRONT, where=world(stop=2))

    def test_raises(self):
        text = 'def f():\n    yield "a"\n    raise bad "t"\n'
        self.sees([WALK] + given("a") + bad("bad", "t"), text)
        self.sees([WALK] + given("a") + [END], text, where=world(stop=1))
        text = 'def f():\n    try:\n        yield "a"\n    finally:\n        raise bad "t"\n'
        self.sees([WALK] + given("a") + bad("bad", "t"), text, where=world(stop=1))
        text = 'def f():\n    try:\n        yield "a"\n    finally:\n        yield "b"\n'
        self.sees([WALK] + given("a") + [WRONG], text, where=world(stop=1))
        self.sees([WALK] + given("a") + given("b") + [END], text)
        self.sees([WALK, WRONG], "def f():\n    none()\n    yield none\n")
        self.sees([WALK, END], "def f():\n    none()\n    yield none\n", where=world(stop=0))

    def test_returns(self):
        self.sees([WALK] + given("a") + [END], 'def f():\n    yield "a"\n    return "no"\n')
        self.sees([WALK] + given("a") + [END], 'def f():\n    try:\n        yield "a"\n    finally:\n        return "no"\n', where=world(stop=1))

    def test_generators_of_others(self):
        text = 'def g(a):\n    yield a\ndef f(a):\n    see "f"\n    return g(a)\n'
        self.sees(see("f") + [WALK] + given(1) + [END], text, 1)
        text = 'def g():\n    yield "a"\ndef f():\n    w = g()\n    each x in w:\n        see x\n    return w\n'
        self.sees(see("a") + [WALK, END], text)
        self.sees(see("a") + [WALK, END], text, where=world(stop=0))
        text = SAFE + 'def f():\n    w = g()\n    each x in w:\n        return w\n'
        self.sees(see("last") + [WALK, END], text)

    def test_defaults_are_reckoned_before(self):
        self.sees([WRONG], "def f(a=none.x):\n    yield a\n")
        self.sees([WRONG], "def f(a):\n    yield a\n")

    def test_methods(self):
        text = 'class c:\n    def make(self, a):\n        see "make"\n        self.a = a\n    def get(self, b):\n        yield (self.a, b)\n'
        found = self.seen(text, ("method", "m", "c", 1, (), "get", 0, ("b",)), world({".b": 7}))
        self.assertEqual(found, see("make") + [WALK] + given([1, 7]) + [END])


if __name__ == "__main__":
    unittest.main()
