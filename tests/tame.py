"""Programs by chance of another kind: sensible ones, of which most can be judged.

Calls go to what stands ahead alone, so that there are no rings, and what is seen is mostly plain.
"""

import random

from turnedparts.programs import is_program
from turnedparts.reading import read_module

KINDS = ("bad", "worse", "wrong", "any")


class Tame:
    def __init__(self, seed):
        self.random = random.Random(seed)
        self.helpers = []
        self.walks = []
        self.families = []
        self.many = 0

    def one(self, rows):
        return self.random.choice(list(rows))

    def odds(self, part):
        return self.random.random() < part

    def texts(self):
        """The texts of the modules of a program."""
        rows = []
        for _ in range(self.random.randint(0, 3)):
            rows += getattr(self, self.one(("helper", "walk", "family")))()
        rows += ["_x = ?x()", '_y = ("t", none)'] if self.odds(0.5) else []
        for name in ("f", "g")[:self.random.randint(1, 2)]:
            rows += self.function(name, 3, self.odds(0.3))
        if self.odds(0.3):
            rows += self.family("c")
        if self.odds(0.3):
            rows += ["k = (?k(), none)"]
        if self.odds(0.3):
            # What stands in front of the functions comes from another module.
            at = next(at for at, row in enumerate(rows) if row.startswith(("def f", "def g")))
            names = sorted({row.split()[1].split("(")[0].rstrip(":") for row in rows[:at] if row.startswith(("def", "class"))})
            ahead = rows[:at]
            rows = [f"from o take {name} as {name}" for name in names] + [row for row in ahead if row.startswith("_")] + rows[at:]
            return {"o": "\n".join(ahead) + "\n", "m": "\n".join(rows) + "\n"}
        return {"m": "\n".join(rows) + "\n"}

    def fresh(self, front):
        self.many += 1
        return f"{front}{'abcdefghijklmnopqrstuvwxyz'[self.many]}"

    def helper(self):
        name = self.fresh("_h")
        rows = self.function(name, 2, False)
        self.helpers.append((name, self.places))
        return rows

    def walk(self):
        name = self.fresh("_w")
        rows = self.function(name, 2, True)
        self.walks.append((name, self.places))
        return rows

    def family(self, name=None):
        name = name or self.fresh("_c")
        rows = [f"class {name}:"]
        rows += ["    def make(self, v, w=none):", "        self.v = v", "        self.w = (v, w)"]
        if self.odds(0.5):
            rows += ["        see v"]
        own = ["v", "self.v", "self.w"]
        for method in ("get", "low"):
            if self.odds(0.5):
                rows += [f"    def {method}(self, v):"] + self.block(own, 2, 2, {"walks": self.odds(0.2)})
        rows += ["    def enter(self):"] + self.block(own[1:], 2, 1, {"walks": False})
        rows += ["    def leave(self, e):"] + self.block(["e"], 2, 1, {"walks": False})
        if name.startswith("_"):
            self.families.append(name)
        return rows

    def function(self, name, depth, walks):
        params = ["a", "b", "e"][:self.random.randint(0 if name.startswith("_") else 1, 3)]
        self.places = len(params)
        told = list(params)
        if params and self.odds(0.3):
            told[-1] += "=none"
        if len(params) > 1 and self.odds(0.4):
            told.insert(self.random.randint(1, len(told)), "/")
        rows = [f"def {name}({', '.join(told)}):"]
        return rows + self.block(params, 1, depth, {"walks": walks})

    def block(self, names, blanks, depth, state):
        names = list(names)
        rows = []
        for _ in range(self.random.randint(1, 3 if depth > 1 else 2)):
            rows += self.statement(names, blanks, depth, state)
        if state["walks"] and blanks == 1:
            rows.append("    yield " + self.expr(names, 1))
        if self.odds(0.3):
            rows.append("    " * blanks + self.one(("return " + self.expr(names, 2), f"raise {self.one(KINDS)} {self.expr(names, 1)}", "pass")))
        return rows

    def expr(self, names, depth):
        pick = self.random.random()
        if depth == 0 or pick < 0.5:
            return self.one(names) if names and self.odds(0.8) else self.one(("none", '"t"', '"u"', "?q()", "()"))
        if pick < 0.7:
            return f"?{self.one('pq')}({', '.join(self.expr(names, depth - 1) for _ in range(self.random.randint(0, 2)))})"
        if pick < 0.8:
            return "(" + "".join(self.expr(names, depth - 1) + ", " for _ in range(self.random.randint(0, 2))) + ")"
        if pick < 0.85:
            return f"?p({self.expr(names, 0)}).x"
        if pick < 0.93 or not self.helpers:
            return f"({self.expr(names, 0)} if {self.expr(names, 1)} else {self.expr(names, 0)})"
        return self.call(self.helpers, names)

    def call(self, rows, names):
        name, places = self.one(rows)
        many = places if self.odds(0.9) else self.random.randint(0, 3)
        return f"{name}({', '.join(self.expr(names, 0) for _ in range(many))})"

    def statement(self, names, blanks, depth, state):
        simple = ["let", "let", "see", "see", "see", "do", "unpack"]
        if state["walks"]:
            simple += ["walk_on"] * 3
        deep = ["if_", "if_", "if_", "for_", "try_", "try_", "inner"]
        if self.walks:
            deep += ["each", "each"]
        if self.families:
            deep += ["with_"]
        return getattr(self, "do_" + self.one(simple + (deep if depth > 0 else [])))(names, "    " * blanks, blanks, depth, state)

    def given(self, names):
        name = self.one(("v", "w", "z"))
        if name not in names:
            names.append(name)
        return name

    def do_let(self, names, front, blanks, depth, state):
        told = self.expr(names, 2)
        if self.families and self.odds(0.2):
            told = f"{self.one(self.families)}({self.expr(names, 0)}).{self.one(('v', 'w', 'x'))}"
        return [f"{front}{self.given(names)} = {told}"]

    def do_see(self, names, front, blanks, depth, state):
        return [f"{front}see {self.expr(names, 1)}"]

    def do_walk_on(self, names, front, blanks, depth, state):
        return [f"{front}yield {self.expr(names, 1)}"]

    def do_do(self, names, front, blanks, depth, state):
        return [front + (self.call(self.helpers, names) if self.helpers else self.expr(names, 1))]

    def do_unpack(self, names, front, blanks, depth, state):
        told = f"({self.expr(names, 1)}, {self.expr(names, 1)})" if self.odds(0.9) else self.expr(names, 1)
        names += ["v", "w"]
        return [f"{front}v, w = {told}"]

    def do_if_(self, names, front, blanks, depth, state):
        rows = [f"{front}if {self.expr(names, 1)}:"] + self.block(names, blanks + 1, depth - 1, state)
        if self.odds(0.5):
            rows += [f"{front}else:"] + self.block(names, blanks + 1, depth - 1, state)
        return rows

    def do_for_(self, names, front, blanks, depth, state):
        items = "".join(self.expr(names, 1) + ", " for _ in range(self.random.randint(0, 2)))
        name = self.given(names)
        return [f"{front}for {name} in ({items}):"] + self.block(names, blanks + 1, depth - 1, state)

    def do_each(self, names, front, blanks, depth, state):
        told = self.call(self.walks, names)
        name = self.given(names)
        return [f"{front}each {name} in {told}:"] + self.block(names, blanks + 1, depth - 1, state)

    def do_with_(self, names, front, blanks, depth, state):
        called = f" as {self.given(names)}" if self.odds(0.3) else ""
        return [f"{front}with {self.one(self.families)}({self.expr(names, 0)}){called}:"] + self.block(names, blanks + 1, depth - 1, state)

    def do_try_(self, names, front, blanks, depth, state):
        rows = [f"{front}try:"] + self.block(names, blanks + 1, depth - 1, state)
        many = self.random.randint(0, 2)
        for _ in range(many):
            called = f" as {self.given(names)}" if self.odds(0.4) else ""
            rows += [f"{front}except {self.one(KINDS)}{called}:"] + self.block(names, blanks + 1, depth - 1, state)
        if not many or self.odds(0.4):
            rows += [f"{front}finally:"] + self.block(names, blanks + 1, depth - 1, state)
        return rows

    def do_inner(self, names, front, blanks, depth, state):
        own = [name for name in names if name in ("v", "w", "z")]
        rows = [f"{front}def i(k=none):"]
        if own and self.odds(0.6):
            rows.append(f"{front}    nonlocal {own[0]}")
        rows += self.block(names + ["k"], blanks + 1, depth - 1, {"walks": False})
        return rows + [self.one((f"{front}i()", f"{front}v = i({self.expr(names, 0)})", f"{front}i"))]


def tame_program(seed):
    """A program, or None for seeds that make none."""
    try:
        program = {name: read_module(text) for name, text in Tame(seed).texts().items()}
    except ValueError:
        return None
    return program if is_program(program) else None
