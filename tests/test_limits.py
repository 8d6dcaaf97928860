"""[5] Programs near the limits, and somewhat beyond: deep calls, many statements, large values."""

import unittest

from helping import WALK, back, world
from turnedparts.outside import seen, uses
from turnedparts.programs import check_program
from turnedparts.reading import read_module
from turnedparts.writing import write_module

CALL = ("call", "m", "f", 0, ())


def names(many):
    return ["g" + chr(97 + at // 26) + chr(97 + at % 26) for at in range(many)]


class Limits(unittest.TestCase):
    def events(self, text, use=CALL, where=None, **modules):
        program = {"m": read_module(text), **{name: read_module(told) for name, told in modules.items()}}
        return seen(program, use, where or world())

    def test_calls_within_one_another(self):
        row = names(98)
        rows = [f"def {name}(a):\n    return ({other}((a,)))\n" for name, other in zip(row, row[1:])]
        text = "".join(rows) + f'def {row[-1]}(a):\n    return "t"\ndef f():\n    return {row[0]}("a")\n'
        self.assertEqual(self.events(text), back("t"))
        self.assertEqual(len(uses({"m": read_module(text)})), 99 + 98 * 2 + 1)

    def test_generators_within_one_another(self):
        row = names(48)
        rows = [f"def {name}():\n    each x in {other}():\n        yield x\n" for name, other in zip(row, row[1:])]
        text = "".join(rows) + f'def {row[-1]}():\n    try:\n        yield "a"\n        yield "b"\n    finally:\n        see "l"\ndef f():\n    return {row[0]}()\n'
        self.assertEqual(self.events(text), [WALK, ("yield", ("text", "a")), ("yield", ("text", "b")), ("see", ("text", "l")), ("end",)])
        self.assertEqual(self.events(text, where=world(stop=1)), [WALK, ("yield", ("text", "a")), ("see", ("text", "l")), ("end",)])

    def test_lets_within_one_another(self):
        row = names(199)
        text = "".join(f"{name} = ({other},)\n" for name, other in zip(row, row[1:])) + f'{row[-1]} = "t"\nx = {row[0]}\n'
        program = {"m": read_module(text)}
        found = seen(program, ("read", "m", "x"), world())
        for _ in range(198):
            kind, parts = found[0][1]
            self.assertEqual(kind, "tuple")
            found = [("back", parts[0])]
        self.assertEqual(found, back("t"))

    def test_many_statements(self):
        items = ", ".join(['"a"'] * 16)
        text = f"def f():\n    for i in ({items}):\n        for j in ({items}):\n            for k in ({items}):\n                see i\n"
        self.assertEqual(len(self.events(text)), 16 ** 3 + 1)

    def test_large_values(self):
        items = ", ".join(["none"] * 200)
        text = f"def f():\n    a = ?p()\n    for i in ({items}):\n        a = ?p(a, (a, i))\n    see a\n    return a.x\n"
        self.assertEqual(self.events(text, where=world(table={("p",): 3, (".x", 0): 4})), [("see", ("number", 0))] + back(4))

    def test_a_module_with_200_statements_in_each_of_8(self):
        program = {}
        for module in "abcdefgh":
            rows = [f"def {name}(x, y=none):\n    see ?p(x, y)\n" for name in names(99)]
            program[module] = read_module("".join(rows) + "def f():\n    pass\n")
            check_program(program)
        self.assertEqual(read_module(write_module(program, "h")), program["h"])
        self.assertEqual(len(uses(program)), 8 * (99 * 6 + 2))

    def test_long_lines(self):
        text = "x = (" + "none, " * 3000 + ")"
        self.assertEqual(len(read_module(text)[0][2][1]), 3000)
        program = {"m": read_module(text)}
        self.assertEqual(write_module(program, "m"), "x = (" + ", ".join(["none"] * 3000) + ")\n")


if __name__ == "__main__":
    unittest.main()
