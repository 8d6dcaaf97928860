"""Programs by chance of a fourth kind: a private function with calls of it, and plans for it."""

import random

from turnedparts.programs import is_program
from turnedparts.reading import read_module

KINDS = ("front", "plain", "only")
FRONT = "def _g(t):\n    see t\n    return t\ndef _h(t):\n    if t:\n        raise bad t\n    return t\n"
ROWS = ("v = {}", "{}", "see {}", "return {}", "if {}:\n        pass", "if b:\n        {}\n    else:\n        v = {}", "see ({},)", "v = lambda: {}")


class Calling:
    def __init__(self, seed):
        self.random = random.Random(seed)
        self.params = ()
        self.used = []

    def one(self, rows):
        return self.random.choice(list(rows))

    def odds(self, part):
        return self.random.random() < part

    def new_params(self, names):
        kinds = sorted((self.one(KINDS) for _ in names), key=KINDS.index)
        found = []
        for name, kind in zip(names, kinds):
            must = kind != "only" and any(row[1] != "only" and row[2] for row in found)
            found.append((name, kind, self.one((("none",), ("text", "d"), ("text", "e"))) if must or self.odds(0.4) else None))
        return tuple(found)

    def expr(self, depth):
        pick = self.random.random()
        if depth == 0 or pick < 0.2:
            return self.one(("a", "b", "v", '"t"', "none", "()"))
        if pick < 0.35:
            return self.one(('"t"', "none", "()"))
        if pick < 0.6:
            return f"{self.one(('_g', '_h'))}({self.expr(depth - 1)})"
        if pick < 0.7:
            return f"?p({self.expr(depth - 1)})"
        if pick < 0.84:
            return self.one(("(lambda: _g(a))", f"(lambda k={self.expr(depth - 1)}: k)"))
        if pick < 0.93:
            return f"({self.expr(depth - 1)}, {self.expr(0)})"
        return self.call(depth - 1)

    def call(self, depth=2, name="_f"):
        places, named, is_open = [], [], True
        for param, kind, default in self.params:
            given = (default is None or self.odds(0.7)) != self.odds(0.02)
            if given and kind != "only" and is_open and (kind == "front" or self.odds(0.5)):
                places.append(self.expr(depth))
                continue
            is_open = is_open and kind == "only"
            if given and kind != "front":
                named.append(f"{param}={self.expr(depth)}")
        self.random.shuffle(named)
        return f"{name}({', '.join(places + named)})"

    def program(self):
        names = ["x", "y", "z", "w"][:self.random.randint(1, 4)]
        self.params = self.new_params(names)
        self.used = [name for name in names if self.odds(0.7)]
        told = "".join(f"?q({name}), " for name in self.used)
        body = read_module(f'def _f():\n    see ("f", {told})\n    return "r"\n')[0][3]
        rows = [self.one(ROWS) for _ in range(self.random.randint(1, 2))]
        text = "".join(f"    {row.format(self.call(), self.call())}\n" for row in rows)
        program = {"m": read_module(FRONT) + (("def", "_f", self.params, body),) + read_module('def p(a, b):\n    v = "v"\n' + text)}
        if self.odds(0.4):
            call = self.call(1, self.one(("m._f", "_k"))).replace("_g", "m._g").replace("_h", "m._h")
            program["n"] = read_module(f'use m\nfrom m take _f as _k\nfrom m take _f as _f\ndef q(a, b):\n    v = "v"\n    return {call}\n')
        return program

    def plan(self):
        old = {row[0]: row[2] for row in self.params}
        names = [name for name in old if name in self.used or self.odds(0.6)] + [name for name in ("na", "nb") if self.odds(0.3)]
        self.random.shuffle(names)
        found = []
        for name, kind, default in self.new_params(names):
            must = kind != "only" and any(row[1] != "only" and row[2] for row in found)
            if name in old and self.odds(0.5) and not (must and old[name] is None):
                default = old[name]
            if default is None and (must or name not in old):
                default = ("text", "n")
            found.append((name, kind, default))
        return tuple(found)


def calling_program(seed):
    """A program and the chance that made it; None for seeds that make none."""
    chance = Calling(seed)
    program = chance.program()
    return (program if is_program(program) else None), chance
