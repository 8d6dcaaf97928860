"""The whole document: a program taken through all that can be done with it, alike where the document says so."""

import copy
import random
import unittest

from helping import told
from nested import nested_program
from places import alike
from stepping import row_by_chance
from turnedparts.alikes import judge, tree
from turnedparts.binding import bindings
from turnedparts.errors import (
    BadNames, BadPlace, BadPlan, BadProgram, Caught, Fixed, Gone, NoModule, NotAlike, NotPlain, PartsError,
)
from turnedparts.extracting import extract, put_back
from turnedparts.houses import House, watcher
from turnedparts.leaving import lean
from turnedparts.merging import Against, Clash, Merged, Together, commute, merged
from turnedparts.outside import seen, uses
from turnedparts.reading import read_module
from turnedparts.renaming import Repairs, renamed, repairs, variables
from turnedparts.signatures import Change, change
from turnedparts.steps import Back, Exchange, Extract, Rename, Row
from turnedparts.turning import boxed, branched, chosen, eager, exchanged, lazy, put_in, taken_out, unrolled
from turnedparts.worlds import World
from turnedparts.writing import write_module

TEXT = """\
use shop
from shop take _price as _cost
_base = ?base()
def _sum(one, other, fee=none):
    see fee
    return ?plus(one, other)
def total(many, kind):
    left = many
    for part in (kind, left, "fee"):
        one = _cost(part)
        if one:
            see one
        else:
            see "free"
    def back():
        nonlocal left
        left = ?less(left)
        return left
    back()
    done = _sum(back(), shop._price(left), fee="t") if many else _base
    return done
"""
SHOP = """\
def _price(what, /):
    if what:
        return ?price(what)
    raise bad what
class cart:
    def make(me, first):
        me.first = first
    def sum(me, more=none):
        with me as now:
            return (_price(me.first), more, now)
    def enter(me):
        see "in"
    def leave(me, why):
        see why
"""


class Whole(unittest.TestCase):
    def test_all_the_way(self):
        house = House.of_texts(m=TEXT, shop=SHOP, strict=True)
        first = house.contents
        news = watcher(house)
        self.assertIs(alike(first, first), True)

        def go_on(late):
            """Put what a change gives into the strict house, written and read again."""
            for module in late:
                self.assertEqual(read_module(write_module(late, module)), late[module])
            house.put_all(*[(module, late[module]) for module in late])
            self.assertEqual(house.contents, late)
            return house.contents

        now = go_on(renamed(first, {("m", (4,), "left"): "rest", ("m", (), "_cost"): "_dear"}))
        self.assertIn("_dear", house.text("m"))
        found = repairs(now, {("m", (4,), "rest"): "one"})
        self.assertEqual(list(found.places), [("m", (4,), "one")])
        now = go_on(renamed(now, found.names))
        now = go_on(extract(now, "m", (4, 3, 1, 3), 0, 2, "look"))
        self.assertEqual(put_back(now, "m", (4, 3, 1, 3), 0), renamed(renamed(first, {("m", (4,), "left"): "rest", ("m", (), "_cost"): "_dear"}), found.names))
        now = go_on(branched(now, "m", (4, 3), 4))
        turned = change(now, "m", "_sum", (("other", "front", None), ("one", "only", None), ("fee", "only", ("none",))))
        self.assertEqual(turned.puts, {("m", (4, 3, 4, 2, 0, 2)): (0,)})
        now = go_on(turned.program)
        now = go_on(put_in(now, "m", (4, 3), 4))
        now = go_on(taken_out(now, "m", (4, 3), 4))
        row = Rename({("m", (4,), "back"): "less"}) + Extract("m", (4, 3), 3, 1, "once") + Back("m", (4, 3), 3)
        now = go_on(row(now))
        self.assertEqual(news(), ["m"])
        self.assertTrue(judge(first, now))
        for use in uses(now):
            self.assertEqual(tree(first, use), tree(now, use))
            world = World({"0": 3, ".0": 3}, {("price", (("number", 3),)): 4}, [3], None)
            self.assertEqual(seen(first, use, world), seen(now, use, world))
        other = read_module(house.text("m").replace("free", "dear"))
        with self.assertRaises(NotAlike) as caught:
            house.put("m", other)
        self.assertTrue(caught.exception.found.shows(now, {**now, "m": other}))
        self.assertEqual(house.contents, now)
        self.assertEqual(house.trial(lambda inner: len(inner.put("_more", ()))), 3)
        self.assertEqual(list(house), ["m", "shop"])
        less = lean(now)
        self.assertTrue(less.shows(now))
        self.assertTrue(judge(first, go_on(less.program)))
        self.assertEqual(lean(less.program).program, less.program)

    def test_two_hands(self):
        program = told(TEXT, shop=SHOP)
        ones = [Rename({("m", (4,), "left"): "rest"}), Extract("m", (4, 3), 1, 1, "begin")]
        others = [Extract("m", (4, 3, 1, 3), 0, 2, "look"), Rename({("m", (4,), "done"): "end"})]
        found = merged(program, ones, others)
        self.assertTrue(found)
        self.assertTrue(judge(program, found.program))
        house = House(program, strict=True)
        house.put("m", found.program["m"])
        self.assertEqual(house.contents, Row(found.others)(Row(ones)(program)))

    def test_turns_back_and_forth(self):
        program = told("def f(a, /):\n    for b in (a, \"t\"):\n        see b\n    return a if a else none\n")
        walk = lazy(program, "m", (0, 3), 0, "go")
        self.assertTrue(judge(program, walk))
        self.assertEqual(eager(walk, "m", (0, 3), 0), program)
        self.assertTrue(judge(program, unrolled(program, "m", (0, 3), 0)))
        self.assertEqual(chosen(branched(program, "m", (0, 3), 1), "m", (0, 3), 1), program)
        inner = told("def f(a, /):\n    def g(b):\n        return (a, b)\n    return g(a)\n")
        self.assertTrue(judge(inner, boxed(inner, "m", (0, 3), 0, "_box")))

    def test_steps_that_leave_alike(self):
        """Renames, extracts and backs leave a program alike; a strict house takes all of them."""
        many = 0
        for seed in range(60):
            program = nested_program(seed)
            if program is None or alike(program, program) is None:
                continue
            house = House(program, strict=True)
            for step in row_by_chance(random.Random(seed), program, 4):
                if isinstance(step, Exchange):
                    break
                house.put("m", step(house.contents)["m"])
                many += 1
            self.assertTrue(judge(program, house.contents))
        self.assertGreater(many, 30)


class Conventions(unittest.TestCase):
    """[1] For all that changes programs: arguments and answers, and the error documented first."""

    def asks(self):
        """The functions that are asked of a program and further arguments, with arguments that go."""
        program = told("def f(a, /):\n    b = a\n    see b\n    for i in (a, b):\n        see i\n    if a:\n        see a\n    see a if b else none\n"
                       "    def g():\n        yield a\n    each e in g():\n        see e\n    def h():\n        see a\n    h()\n    def k():\n        return a\n    return k()\n"
                       "def _p(x, y):\n    return (x, y)\ndef q(a):\n    return _p(f(a), y=f(none))\n")
        names = {("m", (0,), "b"): "c", ("m", (), "_p"): "_q"}
        block = ("m", (0, 3))
        ones, others = [Exchange(*block, 0)], [Rename(names), Extract(*block, 2, 1, "go")]
        return program, [
            (bindings, ()), (variables, ()), (renamed, (names,)), (repairs, ({("m", (0,), "b"): "i"},)), (extract, (*block, 1, 2, "go")), (put_back, (*block, 7)),
            (change, ("m", "_p", (("y", "front", None), ("x", "only", None)))), (lazy, (*block, 2, "go")), (eager, (*block, 5)), (unrolled, (*block, 2)), (branched, (*block, 4)),
            (put_in, (*block, 3)), (exchanged, (*block, 0)), (boxed, (*block, 9, "_box")), (commute, (ones[0], others[0])), (commute, (ones[0], Exchange(*block, 1))), (merged, (ones, others)),
            (merged, (ones, (ones[0],))),
        ]

    def test_arguments_stay_and_answers_are_equal(self):
        program, rows = self.asks()
        kept, kept_rows = copy.deepcopy(program), copy.deepcopy(rows)
        for (ask, arguments), (_, others) in zip(rows, kept_rows):
            one = ask(program, *arguments)
            self.assertEqual(program, kept, ask)
            self.assertEqual(arguments, others, ask)
            other = ask(copy.deepcopy(program), *others)
            self.assertEqual(one, other, ask)
            self.spoil(one)
            self.assertEqual(program, kept, ask)
            self.assertEqual(arguments, others, ask)
            self.assertEqual(ask(program, *arguments), other, ask)

    def spoil(self, thing):
        """Change all that can be changed of an answer."""
        if isinstance(thing, (list, dict)):
            thing.clear()
            return
        for name in vars(thing):
            part = getattr(thing, name)
            for inner in part if isinstance(part, list) else []:
                for own in list(vars(inner)):
                    setattr(inner, own, "spoiled")
            if isinstance(part, (list, dict)):
                part.clear()
            setattr(thing, name, None)

    def test_dicts_in_any_order(self):
        program, rows = self.asks()
        program["n"] = read_module("x = none\n")
        other = dict(reversed(program.items()))
        for ask, arguments in rows:
            turned = [dict(reversed(told_of.items())) if isinstance(told_of, dict) else told_of for told_of in arguments]
            self.assertEqual(ask(program, *arguments), ask(other, *turned), ask)

    def test_no_program_comes_first(self):
        _, rows = self.asks()
        nothing = {"m": (("pass",),)}
        for ask, arguments in rows:
            with self.assertRaises(BadProgram) as caught:
                ask(nothing, *arguments)
            self.assertEqual((caught.exception.module, caught.exception.number), ("m", 0))
            with self.assertRaises(BadProgram):
                ask(None, *[None for _ in arguments])
        for made, arguments in ((Repairs({}, {}), (None,)), (Together({}), (None, None)), (Against(None, None), (None, None))):
            with self.assertRaises(BadProgram):
                made.shows(nothing, *arguments)
        for ask in (lambda: House(nothing), lambda: House(nothing, strict=True)):
            with self.assertRaises(BadProgram):
                ask()

    def test_errors(self):
        self.assertEqual(NotAlike("told").found, "told")
        self.assertEqual(NoModule("m").module, "m")
        self.assertEqual(Fixed(("m", (), "f")).variable, ("m", (), "f"))
        error = Caught("m", (0, 1))
        self.assertEqual((error.module, error.path), ("m", (0, 1)))
        self.assertEqual(NotPlain("large").why, "large")
        for kind in (NotAlike, NoModule, BadNames, Fixed, Caught, BadPlace, NotPlain, BadPlan, Gone):
            self.assertEqual(kind.__bases__, (PartsError,))
            self.assertEqual(kind.__mro__[-4:-3], (ValueError,))

    def test_evidence_is_equal_by_class_and_attributes(self):
        program = told("x = none\n")
        made = [Repairs({}, {}), Change(program, {}), Together(program), Against(program, program), Merged(program, [], []), Clash(0, 0, Against(None, None)), House(program), Row([]), Rename({})]
        again = copy.deepcopy(made)
        for at, one in enumerate(made):
            for number, other in enumerate(again):
                self.assertIs(one == other, at == number)
                self.assertIs(one != other, at != number)


if __name__ == "__main__":
    unittest.main()
