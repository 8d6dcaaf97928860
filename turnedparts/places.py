"""Places in programs: paths of numbers that lead from a module's tuple on."""

from turnedparts.errors import BadPlace
from turnedparts.words import is_whole


class Place:
    """A block of a function: where it is, and the def whose block it is or is in."""

    def __init__(self, module, path, block, home, function, is_in_loop):
        self.module = module
        self.path = path
        self.block = block
        # The path of the def, and the def.
        self.home = home
        self.function = function
        # Whether a for or each of the function is around the block.
        self.is_in_loop = is_in_loop


def place_of(program, module, path):
    """The block of a function at a path (BadPlace: it is none)."""
    if not isinstance(module, str) or module not in program or not is_path(path):
        raise BadPlace("no path in a module")
    block, at = program[module], 0
    home, function, is_in_loop = None, None, False
    while at < len(path):
        statement = statement_of(block, path[at])
        front, block = block_below(statement, path[at + 1:])
        at = at + 1
        if statement[0] == "def":
            home, function, is_in_loop = path[:at], statement, False
        elif statement[0] in ("for", "each"):
            is_in_loop = True
        at = at + len(front)
    if function is None:
        raise BadPlace("no block of a function")
    return Place(module, path, block, home, function, is_in_loop)


def is_path(thing):
    return isinstance(thing, tuple) and all([is_whole(number) for number in thing])


def statement_of(block, number):
    """The statement of a block with a number (BadPlace: there is none)."""
    if not is_whole(number) or not 0 <= number < len(block):
        raise BadPlace("no statement of a block")
    return block[number]


def block_below(statement, path):
    """The pair of the path and the block in a statement that a path leads to (BadPlace: to none)."""
    for front, block in blocks_at(statement):
        if path[:len(front)] == front:
            return front, block
    raise BadPlace("no block in a statement")


def blocks_at(statement):
    """The pairs of a path and a block of the blocks that stand in a statement, in order."""
    kind = statement[0]
    if kind in ("def", "class", "for", "each", "with"):
        return [((3,), statement[3])]
    if kind == "if":
        return [((2,), statement[2]), ((3,), statement[3])]
    if kind == "try":
        handlers = [((2, at, 2), row[2]) for at, row in enumerate(statement[2])]
        return [((1,), statement[1]), *handlers, ((3,), statement[3])]
    return []


def part_at(thing, path):
    """The part of a tuple that a path leads to."""
    for number in path:
        thing = thing[number]
    return thing


def with_part(thing, path, part):
    """A tuple with another part where a path leads to."""
    if not path:
        return part
    return (*thing[:path[0]], with_part(thing[path[0]], path[1:], part), *thing[path[0] + 1:])


def with_block(program, place, block):
    """A program with another block at a place."""
    return {**program, place.module: with_part(program[place.module], place.path, block)}


def with_parts(thing, rows):
    """A tuple with other parts, told as pairs of a path and a part, none within another one."""
    if rows and not rows[0][0]:
        return rows[0][1]
    below = {}
    for path, part in rows:
        below.setdefault(path[0], []).append((path[1:], part))
    return tuple([with_parts(part, below[at]) if at in below else part for at, part in enumerate(thing)])


def is_within(path, front, first, behind):
    """Whether a path leads into the statements from first to below behind of the block at a path."""
    at = len(front)
    return len(path) > at and path[:at] == front and first <= path[at] < behind
