"""What tests of changes share: places in programs by chance, and whether programs are alike."""

from turnedparts.alikes import judge
from turnedparts.errors import Handed, Ring, TooLarge


def blocks_in(statement):
    """The pairs of a path and a block of a statement."""
    kind = statement[0]
    if kind in ("def", "class", "for", "each", "with"):
        return [((3,), statement[3])]
    if kind == "if":
        return [((2,), statement[2]), ((3,), statement[3])]
    if kind == "try":
        return [((1,), statement[1]), *[((2, at, 2), row[2]) for at, row in enumerate(statement[2])], ((3,), statement[3])]
    return []


def function_blocks(program):
    """The triples of a module, a path and a block of all blocks of functions."""
    found = []

    def look(module, block, path, is_inside):
        if is_inside:
            found.append((module, path, block))
        for at, statement in enumerate(block):
            for front, inner in blocks_in(statement):
                look(module, inner, (*path, at, *front), is_inside or statement[0] == "def")

    for module in sorted(program):
        look(module, program[module], (), False)
    return found


def part(thing, path):
    for at in path:
        thing = thing[at]
    return thing


def alike(one, other):
    """Whether two programs are alike; None, if judging them raises an error."""
    try:
        return bool(judge(one, other))
    except (Ring, Handed, TooLarge):
        return None
