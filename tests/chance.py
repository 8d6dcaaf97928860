"""Programs by chance, for tests; the same ones for the same seed."""

import random

from turnedparts.programs import is_program
from turnedparts.reading import read_module
from turnedparts.worlds import World
from turnedparts.writing import write_module

KINDS = ("bad", "any", "wrong", "worse")
TEXTS = ("", "a", "b c")
FIELDS = ("x", "get", "enter", "leave", "k", "low")


class Chance:
    def __init__(self, seed):
        self.random = random.Random(seed)
        self.tops = {}
        self.module = ""

    def one(self, rows):
        return self.random.choice(list(rows))

    def odds(self, part):
        return self.random.random() < part

    def program(self):
        modules = ["m", "n", "_o"][:self.random.randint(1, 3)]
        for module in modules:
            self.tops[module] = self.top_names(modules, module)
        return {module: tuple(self.top(module, name, kind) for name, kind in self.tops[module].items())
                for module in modules}

    def top_names(self, modules, module):
        names = {"f": "def", "g": "def", "_w": "def", "c": "class"}
        for name, kind in (("_p", "def"), ("_d", "class"), ("x", "let"), ("_y", "let"), ("t", "take"), ("u", "use")):
            if self.odds(0.6) and (kind != "use" or len(modules) > 1):
                names[name] = kind
        rows = list(names.items())
        self.random.shuffle(rows)
        return dict(rows)

    def top(self, module, name, kind):
        self.module = module
        if kind == "use":
            return ("use", self.one(self.tops))
        if kind == "take":
            other = self.one(self.tops)
            return ("take", other, self.one(self.tops[other]), name)
        if kind == "let":
            return ("let", name, self.still(2))
        if kind == "class":
            return self.family(name)
        return self.function(name, None, [], 3, name == "_w" or self.odds(0.25))

    def family(self, name):
        rows = []
        for field in self.random.sample(FIELDS, self.random.randint(1, 4)):
            if self.odds(0.25) and (field not in ("enter", "leave") or self.odds(0.2)):
                rows.append(("let", field, self.still(2)))
            else:
                rows.append(self.function(field, "self", [], 2, self.odds(0.1)))
        if self.odds(0.6):
            rows.append(self.function("make", "self", [], 2, False))
        if self.odds(0.5):
            have = {row[1] for row in rows}
            for field in ("enter", "leave"):
                if field not in have:
                    params = (("self", "plain", None), ("e", "plain", ("none",)))
                    rows.append(("def", field, params, (("see", ("text", field)), ("see", ("name", "e")))))
        bases = tuple(("name", n) for n in self.random.sample(["c", "_d"], 2)
                      if n in self.tops[self.module] and self.odds(0.3) and (n != name or self.odds(0.1)))
        if not bases and "u" in self.tops[self.module] and self.odds(0.2):
            bases = (("attr", ("name", "u"), "c"),)
        return ("class", name, bases, tuple(rows) or (("pass",),))

    def name_of_top(self):
        name = self.one(self.tops[self.module])
        if self.tops[self.module][name] == "use":
            return ("attr", ("name", name), self.one(("f", "c", "x", "_w", "t")))
        return ("name", name)

    def still(self, depth):
        pick = self.random.random()
        if depth == 0 or pick < 0.3:
            if self.odds(0.2):
                return self.name_of_top()
            return self.one((("none",), ("text", self.one(TEXTS)), ("op", self.one("pq"), ())))
        if pick < 0.5:
            return ("op", self.one("pq"), tuple(self.still(depth - 1) for _ in range(self.random.randint(0, 2))))
        if pick < 0.6:
            return ("tuple", tuple(self.still(depth - 1) for _ in range(self.random.randint(0, 2))))
        if pick < 0.65:
            return ("attr", self.still(depth - 1), self.one(FIELDS))
        if pick < 0.9:
            return ("choice", self.still(depth - 1), self.still(depth - 1), self.still(depth - 1))
        return self.name_of_top()

    def function(self, name, first, outer, depth, walks):
        params = [(first, "plain", None)] if first else []
        names = [n for n in ("a", "b", "e") if self.odds(0.5)]
        kinds = sorted((self.one(("front", "plain", "plain", "only")) for _ in names),
                       key=("front", "plain", "only").index)
        if first:
            kinds = ["plain" if kind == "front" else kind for kind in kinds]
        needs = True
        for n, kind in zip(names, kinds):
            given = self.odds(0.85) or (kind != "only" and not needs)
            if given and kind != "only":
                needs = False
            default = (self.expr(outer, 1) if outer else self.still(1)) if given else None
            params.append((n, kind, default))
        own = [row[0] for row in params]
        beyond = []
        block = []
        if outer and self.odds(0.5):
            free = [n for n in outer if n not in own and n != "self"]
            if free:
                beyond = [self.one(free)]
                block.append(("nonlocal", tuple(beyond)))
        state = {"own": list(own) + list(outer), "walks": walks, "make": name == "make", "given": ["v", "w", "z"]}
        # These may be used before they are given, as they are given in the block.
        block.append(("let", "v", self.expr(state["own"], 1)))
        state["own"] = state["own"] + ["v"]
        block.extend(self.block(state, depth))
        if walks:
            block.insert(self.random.randint(len(beyond), len(block)), ("yield", self.expr(own, 1)))
        if self.odds(0.6):
            block.append(("return", self.expr(state["own"], 2)))
        return ("def", name, tuple(params), tuple(block))

    def block(self, state, depth):
        return [self.statement(state, depth) for _ in range(self.random.randint(1, 3))]

    def inner(self, state, depth):
        return tuple(self.block(state, depth - 1))

    def expr(self, own, depth):
        pick = self.random.random()
        if depth == 0 or pick < 0.35:
            if own and self.odds(0.6):
                return ("name", self.one(own))
            if self.odds(0.15):
                return self.name_of_top()
            return self.one((("none",), ("text", self.one(TEXTS)), ("op", self.one("pq"), ())))
        if pick < 0.5:
            return ("op", self.one("pq"), tuple(self.expr(own, depth - 1) for _ in range(self.random.randint(0, 2))))
        if pick < 0.55:
            return ("tuple", tuple(self.expr(own, depth - 1) for _ in range(self.random.randint(0, 3))))
        if pick < 0.6:
            return ("attr", self.expr(own, depth - 1), self.one(FIELDS))
        if pick < 0.72:
            return ("choice", self.expr(own, depth - 1), self.expr(own, depth - 1), self.expr(own, depth - 1))
        if pick < 0.76:
            params = (("k", "plain", self.expr(own, 0) if self.odds(0.5) else None),) if self.odds(0.5) else ()
            return ("lambda", params, self.expr(own + [row[0] for row in params], depth - 1))
        return self.call(own, depth)

    def call(self, own, depth):
        called = self.name_of_top() if self.odds(0.8) else self.expr(own, depth - 1)
        pick = self.random.random()
        if pick < 0.3:
            called = ("attr", ("call", ("name", "c"), (), ()), self.one(FIELDS))
        elif pick < 0.4:
            called = ("attr", called, self.one(FIELDS))
        args = tuple(self.expr(own, depth - 1) for _ in range(self.random.choice((0, 0, 0, 0, 0, 1))))
        named = tuple((n, self.expr(own, depth - 1)) for n in ("a", "b", "e") if self.odds(0.05))
        return ("call", called, args, named)

    def statement(self, state, depth):
        own = state["own"]
        simple = ["let", "let", "see", "see", "do", "do", "raise", "return", "unpack", "pass"]
        if state["walks"]:
            simple += ["yield", "yield", "yield"]
        if state["make"]:
            simple += ["set", "set", "set"]
        deep = ["safe", "safe", "safe", "if", "for", "each", "each", "try", "try", "try", "with", "with", "def"]
        kind = self.one(simple + (deep if depth > 0 else []))
        return getattr(self, "make_" + kind)(state, own, depth)

    def given(self, state):
        name = self.one(state["given"])
        if name not in state["own"]:
            state["own"] = state["own"] + [name]
        return name

    def make_let(self, state, own, depth):
        told = self.expr(own, 2)
        return ("let", self.given(state), told)

    def make_see(self, state, own, depth):
        return ("see", ("op", "s", (self.expr(own, 1),)) if self.odds(0.5) else self.expr(own, 1))

    def make_do(self, state, own, depth):
        return ("do", self.call(own, 2))

    def make_raise(self, state, own, depth):
        return ("raise", self.one(KINDS), self.expr(own, 1) if self.odds(0.5) else None)

    def make_return(self, state, own, depth):
        return ("return", self.expr(own, 2) if self.odds(0.8) else None)

    def make_unpack(self, state, own, depth):
        told = ("tuple", (self.expr(own, 1), self.expr(own, 1))) if self.odds(0.8) else self.expr(own, 1)
        names = ["v", "w"]
        state["own"] = state["own"] + [n for n in names if n not in state["own"]]
        return ("unpack", tuple(names), told)

    def make_pass(self, state, own, depth):
        return ("pass",)

    def make_yield(self, state, own, depth):
        return ("yield", self.expr(own, 1))

    def make_set(self, state, own, depth):
        return ("set", ("name", "self"), self.one(FIELDS), self.expr(own, 1))

    def make_if(self, state, own, depth):
        rest = self.inner(state, depth) if self.odds(0.5) else ()
        return ("if", self.expr(own, 1), self.inner(state, depth), rest)

    def make_for(self, state, own, depth):
        items = tuple(self.expr(own, 1) for _ in range(self.random.randint(0, 3)))
        return ("for", self.given(state), items, self.inner(state, depth))

    def make_each(self, state, own, depth):
        told = ("call", ("name", "_w"), (), ()) if self.odds(0.5) else self.call(own, 1)
        if self.odds(0.2):
            told = self.expr(own, 1)
        return ("each", self.given(state), told, self.inner(state, depth))

    def make_try(self, state, own, depth):
        body = self.inner(state, depth)
        handlers = tuple((self.one(KINDS), self.given(state) if self.odds(0.5) else None, self.inner(state, depth))
                         for _ in range(self.random.randint(0, 2)))
        last = self.inner(state, depth) if not handlers or self.odds(0.6) else ()
        return ("try", body, handlers, last)

    def make_with(self, state, own, depth):
        told = ("call", ("name", "c"), (), ()) if self.odds(0.7) else self.expr(own, 1)
        name = self.given(state) if self.odds(0.5) else None
        return ("with", told, name, self.inner(state, depth))

    def make_safe(self, state, own, depth):
        """A statement whose wrongs are taken."""
        told = self.statement(state, depth - 1)
        return ("try", (told,), (("wrong", None, (("see", ("text", self.one(TEXTS))),)),), ())

    def make_def(self, state, own, depth):
        name = self.given(state)
        if self.odds(0.5):
            state["own"] = state["own"] + [name] * 3
        return self.function(name, None, list(own), depth - 1, self.odds(0.4))

    def world(self):
        inputs = {n: self.random.randint(0, 3) for n in ("0", "1", "2", "a", "b", ".0", ".a") if self.odds(0.6)}
        table = {}
        values = [("none",), ("text", ""), ("text", "a"), ("tuple", ())] + [("number", k) for k in range(4)]
        for _ in range(30):
            args = tuple(self.one(values) for _ in range(self.random.randint(0, 2)))
            table[(self.one(("p", "q", "s", ".x", ".get")), args)] = self.random.randint(0, 3)
        truths = [k for k in range(4) if self.odds(0.5)]
        return World(inputs, table, truths, self.one((None, 0, 1, 2)))


def program_by_chance(seed):
    """A program and the chance that made it; None for those seeds that make none."""
    chance = Chance(seed)
    program = chance.program()
    if not is_program(program):
        return None, chance
    # Read back, so that no two parts are the same tuple.
    return {module: read_module(write_module(program, module)) for module in program}, chance
