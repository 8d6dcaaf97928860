"""[18] Houses: programs that are changed, refused changes, trials, and watchers."""

import unittest

from helping import told
from turnedparts.alikes import judge
from turnedparts.errors import BadProgram, BadText, BadUse, Handed, NoModule, NotAlike, PartsError, Ring, TooLarge
from turnedparts.houses import House, watcher
from turnedparts.outside import seen
from turnedparts.reading import read_module
from turnedparts.worlds import World
from turnedparts.writing import write_module

ONE = "def f(a):\n    if a:\n        return a\n    else:\n        return a\n"
TWO = "def f(a):\n    return a\n"
OTHER = "def f(a):\n    see a\n    return a\n"
CALL = ("call", "m", "f", 1, ())


class Holding(unittest.TestCase):
    def test_contents(self):
        program = told(TWO, o="", _n="x = none\n")
        house = House(program)
        self.assertEqual(house.contents, program)
        self.assertEqual(list(house.contents), ["_n", "m", "o"])
        self.assertEqual(list(house), ["_n", "m", "o"])
        self.assertEqual([module for module in house], ["_n", "m", "o"])
        self.assertEqual(len(house), 3)
        self.assertTrue("m" in house and "_n" in house)
        self.assertFalse("f" in house or "" in house or None in house)
        self.assertIs(house.strict, False)
        self.assertEqual(House.PLACES, 4)
        self.assertEqual(house.PLACES, 4)

    def test_nothing_is_shared(self):
        program = told(TWO)
        house = House(program)
        program["n"] = ()
        self.assertEqual(list(house), ["m"])
        house.contents["n"] = ()
        self.assertEqual(list(house), ["m"])
        contents = house.contents
        house.put("n", ())
        self.assertEqual(list(contents), ["m"])
        self.assertEqual(list(house), ["m", "n"])

    def test_no_programs(self):
        for thing in ({}, None, {"m": []}, {"m": (("pass",),)}, {"from": ()}, {f"m{at}": () for at in "abcdefghi"}):
            with self.assertRaises(BadProgram):
                House(thing)
            self.assertIs(House.can_be(thing), False)
        with self.assertRaises(BadProgram) as caught:
            House({"m": (("pass",),)}, strict=True)
        self.assertEqual((caught.exception.module, caught.exception.number), ("m", 0))
        self.assertIs(House.can_be(told(ONE)), True)
        self.assertIs(House(told(ONE)).can_be({}), False)

    def test_equal(self):
        one, other = House(told(ONE, n="")), House({"n": (), **told(ONE)}, strict=True)
        self.assertTrue(one == other)
        self.assertFalse(one != other)
        self.assertFalse(one == House(told(TWO, n="")))
        self.assertFalse(one == House(told(ONE)))
        self.assertFalse(one == one.contents)
        self.assertFalse(one == None)  # noqa: E711

    def test_both(self):
        one, other = House(told(ONE, n="x = none\n")), House(told(TWO, o=""), strict=True)
        late = one.both(other)
        self.assertEqual(late.contents, {**told(TWO, o=""), "n": read_module("x = none\n")})
        self.assertEqual(list(late), ["m", "n", "o"])
        self.assertIs(late.strict, True)
        self.assertIs(other.both(one).strict, False)
        self.assertEqual(other.both(one).contents["m"], read_module(ONE))
        self.assertEqual([list(one), list(other)], [["m", "n"], ["m", "o"]])

    def test_both_that_give_no_program(self):
        one = House(told("from n take f as g\n", n="def f():\n    pass\n"))
        with self.assertRaises(BadProgram) as caught:
            one.both(House({"n": ()}))
        self.assertEqual((caught.exception.module, caught.exception.number), ("m", 0))
        many = [House({name: () for name in names}) for names in ("abcde", "fghi", "fgh")]
        with self.assertRaises(BadProgram) as caught:
            many[0].both(many[1])
        self.assertEqual((caught.exception.module, caught.exception.number), (None, None))
        self.assertEqual(len(many[0].both(many[2])), 8)

    def test_calling(self):
        program = told("def f(a):\n    return ?p(a)\n")
        world = World({"0": 4}, {("p", (("number", 4),)): 6}, [], None)
        self.assertEqual(House(program)(CALL, world), [("back", ("number", 6))])
        self.assertEqual(House(program)(CALL, world), seen(program, CALL, world))
        with self.assertRaises(BadUse):
            House(program)(None, world)
        with self.assertRaises(Ring):
            House(told("def f(a):\n    return f(a)\n"))(CALL, world)


class Texts(unittest.TestCase):
    def test_of_texts(self):
        house = House.of_texts(o="", m=ONE)
        self.assertEqual(house.contents, told(ONE, o=""))
        self.assertEqual(list(house), ["m", "o"])
        self.assertIs(house.strict, False)
        self.assertIs(House.of_texts(m=ONE, strict=True).strict, True)
        self.assertIsInstance(house, House)

    def test_modules_with_any_name(self):
        for name in ("cls", "self", "texts", "program", "house", "_", "abcdefghijkl"):
            self.assertEqual(list(House.of_texts(**{name: "x = none\n"})), [name])

    def test_wrong_texts_in_the_order_given(self):
        with self.assertRaises(BadText) as caught:
            House.of_texts(n="x =\n", m="\n\nx\n y\n")
        self.assertEqual((caught.exception.line, caught.exception.column), (1, 4))
        with self.assertRaises(BadText) as caught:
            House.of_texts(m="\n\nx\n y\n", n="x =\n")
        self.assertEqual(caught.exception.line, 4)
        with self.assertRaises(BadText):
            House.of_texts(m="pass\n", n="x =\n")
        with self.assertRaises(BadText):
            House.of_texts(m=None)

    def test_texts_of_no_program(self):
        with self.assertRaises(BadProgram) as caught:
            House.of_texts(m="x = none\npass\n")
        self.assertEqual((caught.exception.module, caught.exception.number), ("m", 1))
        with self.assertRaises(BadProgram) as caught:
            House.of_texts()
        self.assertEqual(caught.exception.module, None)

    def test_text(self):
        house = House.of_texts(m=ONE, n="")
        self.assertEqual(house.text("m"), ONE)
        self.assertEqual(house.text("m"), write_module(house.contents, "m"))
        self.assertEqual(house.text("n"), "")
        self.assertEqual(house.text("n", numbers=True), "")
        for numbers in (False, True):
            with self.assertRaises(NoModule) as caught:
                house.text("o", numbers=numbers)
            self.assertEqual(caught.exception.module, "o")

    def test_text_with_numbers(self):
        text = ("x = none\n"
                "def f(a):\n"
                "    if a:\n"
                "        pass\n"
                "    else:\n"
                "        try:\n"
                "            else_()\n"
                "        except any as e:\n"
                "            try:\n"
                '                "else"\n'
                "            finally:\n"
                "                finally_ = none\n"
                "        except bad:\n"
                "            pass\n"
                "        finally:\n"
                "            except_ = (lambda: a)()\n"
                "    return\n"
                "def else_():\n"
                "    pass\n")
        numbers = (0, 1, 2, 3, None, 4, 5, None, 6, 7, None, 8, None, 9, None, 10, 11, 12, 13)
        lines = [f"{'' if number is None else number:>4}  {line}\n" for number, line in zip(numbers, text.splitlines())]
        house = House.of_texts(m=text)
        self.assertEqual(house.text("m"), text)
        self.assertEqual(house.text("m", numbers=True), "".join(lines))
        self.assertEqual(house.text("m", numbers=False), text)

    def test_numbers_with_several_digits(self):
        house = House.of_texts(m="".join(f"x{'abcdefghij'[at // 10]}{'abcdefghij'[at - at // 10 * 10]} = none\n" for at in range(100))
                               + "".join(f"y{'abcdefghij'[at // 10]}{'abcdefghij'[at - at // 10 * 10]} = none\n" for at in range(100)))
        lines = house.text("m", numbers=True).split("\n")
        self.assertEqual([lines[at][:7] for at in (0, 9, 10, 99, 100, 199)],
                         ["   0  x", "   9  x", "  10  x", "  99  x", " 100  y", " 199  y"])
        self.assertEqual(len(lines), 201)
        with self.assertRaises(BadProgram) as caught:
            house.put("m", (*house.contents["m"], ("let", "z", ("none",))))
        self.assertEqual((caught.exception.module, caught.exception.number), ("m", 200))

    def test_each_statement(self):
        house = House.of_texts(o="x = none\n", m="def f(a):\n    try:\n        see a\n    except bad:\n        def g():\n            see a\n    finally:\n        see none\n    return\n    see a\n")
        see = [("m", 2, ("see", ("name", "a"))), ("m", 4, ("see", ("name", "a"))), ("m", 5, ("see", ("none",))), ("m", 7, ("see", ("name", "a")))]
        self.assertEqual(list(house.each_statement("see")), see)
        self.assertEqual(list(house.each_statement(kind="see")), see)
        rows = list(house.each_statement())
        self.assertEqual([row[:2] for row in rows], [("m", at) for at in range(8)] + [("o", 0)])
        self.assertEqual([row[2][0] for row in rows], ["def", "try", "see", "def", "see", "see", "return", "see", "let"])
        self.assertEqual(rows, list(house.each_statement(None)))
        self.assertEqual(list(house.each_statement("use")), [])
        self.assertEqual(list(house.each_statement("no")), [])
        self.assertEqual(rows[-1], ("o", 0, ("let", "x", ("none",))))


class Changing(unittest.TestCase):
    def refused(self, house, kind, change):
        """See that a change of a house is refused, and that it stays as it was; the error."""
        kept = house.contents
        with self.assertRaises(kind) as caught:
            change()
        self.assertEqual(house.contents, kept)
        self.assertEqual(list(house), list(kept))
        return caught.exception

    def test_put(self):
        house = House(told(ONE))
        self.assertIs(house.put("n", ()), house)
        self.assertIs(house.put("a", read_module("x = none\n")).put("m", read_module(OTHER)), house)
        self.assertEqual(house.contents, {"a": read_module("x = none\n"), **told(OTHER), "n": ()})
        self.assertEqual(list(house), ["a", "m", "n"])

    def test_puts_that_give_no_program(self):
        for strict in (False, True):
            house = House(told("use n\nx = n.y\n", n="y = none\n"), strict=strict)
            for module, block in (("m", []), ("", ()), ("from", ()), (None, ()), (3, ()), ("n", read_module("x = z\n")), ("m", (("pass",),)),
                                  ("o", (("use", "p"),)), ("o", None)):
                self.refused(house, BadProgram, lambda: house.put(module, block))
            error = self.refused(house, BadProgram, lambda: house.put("n", read_module("y = none\nx = z\n")))
            self.assertEqual((error.module, error.number), ("n", 1))

    def test_put_all(self):
        house = House(told(ONE))
        rows = [("n", read_module("from m take f as g\n")), ["o", read_module("use n\n")], ("m", read_module(TWO))]
        self.assertIs(house.put_all(*rows), house)
        self.assertEqual(house.contents, told(TWO, n="from m take f as g\n", o="use n\n"))
        self.assertIs(house.put_all(), house)
        self.assertEqual(len(house), 3)

    def test_puts_are_done_one_behind_the_other(self):
        for strict in (False, True):
            house = House(told(ONE), strict=strict)
            late = read_module("from _n take f as f\n")
            self.refused(house, BadProgram, lambda: house.put_all(("m", late), ("_n", read_module(TWO))))
            house.put_all(("_n", read_module(TWO)), ("m", late))
            self.assertEqual(house.contents, {"m": late, "_n": read_module(TWO)})

    def test_all_puts_are_undone(self):
        house = House(told(ONE))
        self.refused(house, BadProgram, lambda: house.put_all(("m", read_module(OTHER)), ("n", ()), ("o", (("pass",),))))
        house.be_strict()
        self.refused(house, NotAlike, lambda: house.put_all(("m", read_module(TWO)), ("_n", ()), ("m", read_module(OTHER))))
        # Each put must leave the program alike, also if a later one would mend it.
        self.refused(house, NotAlike, lambda: house.put_all(("m", read_module(OTHER)), ("m", read_module(TWO))))

    def test_strict(self):
        house = House(told(ONE), strict=True)
        self.assertIs(house.put("m", read_module(TWO)), house)
        kept = house.contents
        error = self.refused(house, NotAlike, lambda: house.put("m", read_module(OTHER)))
        self.assertEqual(error.found, judge(kept, told(OTHER)))
        self.assertTrue(error.found.shows(kept, told(OTHER)))
        self.assertFalse(error.found)
        self.assertIsInstance(error, PartsError)
        self.refused(house, NotAlike, lambda: house.put("n", read_module("x = none\n")))
        house.put("n", read_module("_x = none\n")).put("_o", read_module("x = none\n"))
        self.assertEqual(list(house), ["_o", "m", "n"])

    def test_be_strict(self):
        house = House(told(ONE))
        house.put("m", read_module(OTHER))
        house.be_strict()
        self.assertIs(house.strict, True)
        self.refused(house, NotAlike, lambda: house.put("m", read_module(ONE)))
        house.be_strict(False)
        self.assertIs(house.strict, False)
        house.put("m", read_module(ONE))
        house.be_strict(strict=True)
        self.refused(house, NotAlike, lambda: house.put("m", read_module(OTHER)))

    def test_errors_of_judging(self):
        handing = "def _g():\n    pass\ndef f(a):\n    return _g\n"
        wide = "def f({}):\n    pass\n".format(", ".join("abcdeghij"))
        for text, kind in (("def f(a):\n    return f(a)\n", Ring), (handing, Handed), (wide, TooLarge)):
            self.refused(House(told(text), strict=True), kind, lambda: House(told(text), strict=True).put("_n", ()))
            for change in (lambda house: house.put("_n", ()), lambda house: house.put_all(("_n", ())), lambda house: house.drop("_o")):
                house = House({**told(text), "_o": ()}, strict=True)
                self.refused(house, kind, lambda: change(house))
                house.be_strict(False)
                change(house)
        house = House(told(TWO), strict=True)
        self.refused(house, Ring, lambda: house.put("m", read_module("def f(a):\n    return f(a)\n")))

    def test_drop(self):
        for strict in (False, True):
            house = House(told(ONE, n="_x = none\n"), strict=strict)
            self.assertEqual(house.drop("n"), read_module("_x = none\n"))
            self.assertEqual(house.contents, told(ONE))
            for module in ("n", "f", "", None):
                error = self.refused(house, NoModule, lambda: house.drop(module))
                self.assertEqual(error.module, module)
                self.assertIsInstance(error, PartsError)
            self.refused(house, BadProgram, lambda: house.drop("m"))

    def test_drops_that_are_refused(self):
        for strict in (False, True):
            house = House(told("use n\n", n="x = none\n"), strict=strict)
            error = self.refused(house, BadProgram, lambda: house.drop("n"))
            self.assertEqual((error.module, error.number), ("m", 0))
        house = House(told("x = none\n", n="y = none\n"), strict=True)
        error = self.refused(house, NotAlike, lambda: house.drop("n"))
        self.assertEqual(error.found.use, ("read", "n", "y"))
        house.be_strict(False)
        self.assertEqual(house.drop("n"), read_module("y = none\n"))


class Trials(unittest.TestCase):
    def setUp(self):
        self.house = House(told(ONE))

    def lines(self):
        return list(self.house)

    def put(self, name):
        self.house.put(name, ())

    def test_a_trial_that_does_not_keep(self):
        def work(house):
            self.assertIs(house, self.house)
            house.put("n", ()).put("m", read_module(OTHER))
            self.assertEqual(len(house), 2)
            return ["told"]

        kept = self.house.contents
        self.assertEqual(self.house.trial(work), ["told"])
        self.assertEqual(self.house.contents, kept)

    def test_a_trial_that_keeps(self):
        def work(house):
            self.put("a")
            self.put("b")
            house.keep()
            self.put("c")

        self.assertIsNone(self.house.trial(work))
        self.assertEqual(self.lines(), ["a", "b", "m"])

    def test_the_last_keep(self):
        def work(house):
            house.keep()
            self.put("a")
            house.keep()
            house.drop("a")
            self.put("b")
            house.keep()
            self.put("c")

        self.house.trial(work)
        self.assertEqual(self.lines(), ["b", "m"])

    def test_keep_outside(self):
        self.put("a")
        self.house.keep()
        self.house.trial(lambda house: self.put("b"))
        self.assertEqual(self.lines(), ["a", "m"])
        self.house.trial(lambda house: (self.put("b"), house.keep()))
        self.put("c")
        self.assertIsNone(self.house.keep())
        self.house.trial(lambda house: self.put("d"))
        self.assertEqual(self.lines(), ["a", "b", "c", "m"])

    def test_within_a_trial(self):
        def inner(house):
            self.put("b")
            house.keep()
            self.put("c")

        def work(house):
            self.put("a")
            house.trial(inner)
            self.assertEqual(self.lines(), ["a", "b", "m"])

        self.house.trial(work)
        self.assertEqual(self.lines(), ["m"])

        def keeping(house):
            self.put("a")
            house.keep()
            house.trial(inner)
            self.put("d")
            house.trial(lambda house: self.put("e"))
            self.assertEqual(self.lines(), ["a", "b", "d", "m"])

        self.house.trial(keeping)
        self.assertEqual(self.lines(), ["a", "m"])

        def keeping_late(house):
            house.trial(inner)
            house.keep()
            self.put("e")

        self.house.trial(keeping_late)
        self.assertEqual(self.lines(), ["a", "b", "m"])

    def test_errors(self):
        class Own(Exception):
            pass

        def work(house):
            self.put("a")
            house.keep()
            self.put("b")
            raise Own("told")

        with self.assertRaises(Own) as caught:
            self.house.trial(work)
        self.assertEqual(caught.exception.args, ("told",))
        self.assertEqual(self.lines(), ["a", "m"])
        with self.assertRaises(BadProgram):
            self.house.trial(lambda house: house.put("c", ()).put("d", None))
        self.assertEqual(self.lines(), ["a", "m"])

        def around(house):
            self.put("x")
            with self.assertRaises(KeyError):
                house.trial(lambda house: (self.put("y"), {}["no"]))
            self.assertEqual(self.lines(), ["a", "m", "x"])
            house.keep()

        self.house.trial(around)
        self.assertEqual(self.lines(), ["a", "m", "x"])

    def test_strict_houses(self):
        self.house.be_strict()

        def work(house):
            house.put("m", read_module(TWO))
            house.keep()
            with self.assertRaises(NotAlike):
                house.put("m", read_module(OTHER))
            house.be_strict(False)
            house.put("m", read_module(OTHER))

        self.house.trial(work)
        self.assertEqual(self.house.contents, told(TWO))
        self.assertIs(self.house.strict, False)


class Watchers(unittest.TestCase):
    def test_changed_come_and_gone(self):
        house = House(told(ONE, n="", o=""))
        news = watcher(house)
        self.assertEqual(news(), [])
        house.put("m", read_module(TWO))
        house.put("_p", ())
        house.drop("o")
        late = watcher(house)
        self.assertEqual(news(), ["_p", "m", "o"])
        self.assertEqual(news(), [])
        self.assertEqual(late(), [])
        house.drop("_p")
        self.assertEqual([news(), late(), news(), late()], [["_p"], ["_p"], [], []])

    def test_changed_back(self):
        house = House(told(ONE))
        news = watcher(house)
        house.put("m", read_module(TWO)).put("n", ())
        house.put("m", read_module(ONE)).drop("n")
        self.assertEqual(news(), [])
        house.put("m", read_module(TWO))
        self.assertEqual(news(), ["m"])
        house.put("m", read_module(ONE))
        self.assertEqual(news(), ["m"])
        house.put("m", read_module(ONE))
        self.assertEqual(news(), [])

    def test_several(self):
        house, other = House(told(ONE)), House(told(ONE))
        one, two, three = watcher(house), watcher(house), watcher(other)
        house.put("n", ())
        self.assertEqual(one(), ["n"])
        house.put("o", ())
        self.assertEqual([one(), two(), three()], [["o"], ["n", "o"], []])

    def test_answers_are_new(self):
        house = House(told(ONE))
        news = watcher(house)
        house.put("n", ())
        news().append("more")
        self.assertEqual(news(), [])

    def test_trials(self):
        house = House(told(ONE))
        news = watcher(house)
        rows = []

        def work(inner):
            inner.put("n", ())
            rows.append(news())

        house.trial(work)
        self.assertEqual([rows, news()], [[["n"]], ["n"]])
        house.trial(lambda inner: inner.put("n", ()))
        self.assertEqual(news(), [])


if __name__ == "__main__":
    unittest.main()
