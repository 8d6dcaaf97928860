"""Programs by chance of a third kind: functions with loops, inner functions and lambdas that share names."""

import random

from turnedparts.programs import is_program
from turnedparts.reading import read_module

NAMES = ("x", "y", "z")


class Nested:
    def __init__(self, seed):
        self.random = random.Random(seed)
        self.many = 0

    def one(self, rows):
        return self.random.choice(list(rows))

    def odds(self, part):
        return self.random.random() < part

    def text(self):
        rows = ["_x = ?x()", "def _s(a, /, b=none):", "    see a", "    return b"]
        for name in ("f", "g")[:self.random.randint(1, 2)]:
            rows += [f"def {name}({self.one(('a, /', 'x, /', 'a, y=none', ''))}):"] + self.block(1, 3, 4)
        return "\n".join(rows) + "\n"

    def expr(self):
        return self.one((*NAMES, *NAMES, '"t"', '"u"', "none", f"?p({self.one(NAMES)})", "_x", f"_s({self.one(NAMES)})", f"_s(b={self.one(NAMES)}, a=none)",
                         f"(lambda: {self.one(NAMES)})()", f"(lambda {self.one(NAMES)}={self.one(NAMES)}: {self.one(NAMES)})()"))

    def block(self, blanks, depth, most):
        rows = []
        for _ in range(self.random.randint(1, most)):
            rows += self.statement("    " * blanks, blanks, depth)
        return rows

    def statement(self, front, blanks, depth):
        kind = self.one(("let", "let", "let", "see", "see", "call", "lambda", "unpack", "if", "for", "for", "def", "def", "once", "once", "try") if depth else ("let", "let", "see", "call"))
        if kind == "let":
            return [f"{front}{self.one(NAMES)} = {self.expr()}"]
        if kind == "see":
            return [f"{front}see {self.expr()}"]
        if kind == "call":
            return [f"{front}try:", f"{front}    see {self.one(('u', 'v', 'h'))}()", f"{front}except wrong:", f"{front}    pass"]
        if kind == "lambda":
            return [f"{front}{self.one('uv')} = lambda: {self.one(NAMES)}"]
        if kind == "unpack":
            return [f"{front}x, {self.one('yz')} = ({self.expr()}, {self.expr()})"]
        if kind == "if":
            return [f"{front}if {self.expr()}:"] + self.block(blanks + 1, depth - 1, 2) + ([f"{front}else:"] + self.block(blanks + 1, depth - 1, 2) if self.odds(0.5) else [])
        if kind == "for":
            items = "".join(f"{self.expr()}, " for _ in range(self.random.randint(0, 2)))
            return [f"{front}for {self.one(NAMES)} in ({items}):"] + self.block(blanks + 1, depth - 1, 3)
        if kind == "try":
            called = f" as {self.one(NAMES)}" if self.odds(0.5) else ""
            return [f"{front}try:"] + self.block(blanks + 1, depth - 1, 2) + [f"{front}except any{called}:"] + self.block(blanks + 1, depth - 1, 2)
        self.many += 1
        name = self.one("uvh") if kind == "def" else "k" + "abcdefghijklmnopqrstuvwxyz"[self.many % 26]
        rows = [f"{front}def {name}():"]
        if self.odds(0.5):
            rows.append(f"{front}    nonlocal {', '.join(self.random.sample(NAMES, self.random.choice((1, 1, 2))))}")
        return rows + self.block(blanks + 1, depth - 1, 2) + ([f"{front}{name}()"] if kind == "once" else [])


def nested_program(seed):
    """A program, or None for seeds that make none."""
    made = Nested(seed)
    text = made.text()
    lines = []
    for line in text.split("\n"):
        lines.append(line)
        if line.startswith(("def f(", "def g(")):
            have = line.split("(")[1]
            # Most names that are used are own ones, though some are given nothing until then.
            given = [name for name in (*NAMES, "u", "v", "h") if name not in have.replace("none", "") and made.odds(0.6)]
            lines.append("    if _x:")
            lines.extend([f"        {name} = none" for name in given] or ["        pass"])
    try:
        program = {"m": read_module("\n".join(lines))}
    except ValueError:
        return None
    return program if is_program(program) else None
