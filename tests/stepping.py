"""Steps by chance, for tests."""

from places import function_blocks
from turnedparts.errors import PartsError
from turnedparts.renaming import variables
from turnedparts.steps import Back, Exchange, Extract, Rename


def step_by_chance(chance, program):
    """A step that may go or not."""
    kind = chance.choice(("rename", "extract", "extract", "back", "exchange", "exchange"))
    rows = function_blocks(program)
    module, path, block = chance.choice(rows)
    if kind == "rename":
        found = [variable for variable in variables(program) if variable[1] != () or variable[2].startswith("_")]
        if found:
            some = chance.sample(found, min(len(found), chance.choice((1, 1, 2))))
            return Rename({variable: chance.choice(("_ab", "cc", "dd", "v", "x", "w", "_hb")) for variable in some})
    if kind == "extract" and block:
        first = chance.randrange(len(block))
        return Extract(module, path, first, chance.randint(1, len(block) - first), chance.choice(("go", "on", "up", "it")))
    if kind == "back":
        defs = [(module, path, at) for module, path, block in rows for at, row in enumerate(block[:-1]) if row[0] == "def"]
        if defs:
            return Back(*chance.choice(defs))
    return Exchange(module, path, chance.randrange(max(1, len(block))))


def row_by_chance(chance, program, many):
    """A list of at most so many steps that go, one behind the other."""
    found = []
    for _ in range(20):
        if len(found) == many:
            break
        step = step_by_chance(chance, program)
        try:
            program = step(program)
        except PartsError:
            continue
        found.append(step)
    return found
