"""Where places are behind a change of a block, and statements behind one."""

from turnedparts.errors import BadPlace, Gone
from turnedparts.extracting import names_from_beyond
from turnedparts.places import place_of, statement_of


def behind_extract(program, step, path):
    """Where a path is behind statements that are made a function."""
    at = len(step.path)
    if not is_in_block(step, path):
        return path
    number = path[at] - step.first
    if number < 0:
        return path
    if number >= step.many:
        return (*step.path, path[at] - step.many + 2, *path[at + 1:])
    place = place_of(program, step.module, step.path)
    statements = place.block[step.first:step.first + step.many]
    if names_from_beyond(place.function, statements):
        number += 1
    return (*step.path, step.first, 3, number, *path[at + 1:])


def behind_back(program, step, path):
    """Where a path is behind a def that is put back, or None, if it is gone."""
    at = len(step.path)
    if not is_in_block(step, path):
        return path
    number = path[at] - step.first
    if number < 0:
        return path
    block = place_of(program, step.module, step.path).block[step.first][3]
    ahead = 1 if block[0][0] == "nonlocal" else 0
    if number > 1:
        return (*step.path, path[at] - 2 + len(block) - ahead, *path[at + 1:])
    inner = path[at + 1:]
    if number == 1 or inner[:1] != (3,) or inner[1] < ahead:
        return None
    return (*step.path, step.first + inner[1] - ahead, *inner[2:])


def behind_exchange(step, path):
    """Where a path is behind two statements that change places."""
    at = len(step.path)
    if not is_in_block(step, path) or path[at] - step.first not in (0, 1):
        return path
    return (*step.path, 2 * step.first + 1 - path[at], *path[at + 1:])


def is_in_block(step, path):
    """Whether a path leads into a statement of the block of a step."""
    return len(path) > len(step.path) and path[:len(step.path)] == step.path


def statements_behind(program, step, many, other):
    """The path of the block and the number of the first of so many statements of a step, behind another one.

    They are gone, if they are not side by side then, in order.
    """
    paths = []
    try:
        block = place_of(program, step.module, step.path).block
        for number in range(step.first, step.first + many):
            statement_of(block, number)
            paths.append(other.behind(program, step.module, (*step.path, number)))
    except BadPlace:
        raise Gone("no such statements") from None
    if not paths or None in paths:
        raise Gone("statements that are no more there")
    path, first = paths[0][:-1], paths[0][-1]
    if paths != [(*path, first + at) for at in range(many)]:
        raise Gone("statements that are no more side by side")
    return path, first
