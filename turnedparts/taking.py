"""Statements of a module by their numbers, and modules without one of them."""

from turnedparts.parts import blocks_of, size_of, size_of_block

PASS = (("pass",),)


def in_order(block):
    """The statements of a block and all those in them, in the order of their numbers."""
    found = []
    for statement in block:
        found.append(statement)
        for inner in blocks_of(statement):
            found.extend(in_order(inner))
    return found


def without(block, number):
    """A block, the first statement of which has the number 0, without the statement with a number."""
    found = []
    at = 0
    for statement in block:
        behind = at + size_of(statement)
        if at < number < behind:
            found.append(without_inner(statement, number - at - 1))
        elif number != at:
            found.append(statement)
        at = behind
    return tuple(found)


def without_inner(statement, number):
    """A statement without one of those in its blocks, the first of which has the number 0."""
    found = []
    at = 0
    for place, block in enumerate(blocks_of(statement)):
        behind = at + size_of_block(block)
        if at <= number < behind:
            less = without(block, number - at)
            found.append(less if less or can_be_empty(statement, place) else PASS)
        else:
            found.append(block)
        at = behind
    return with_blocks(statement, found)


def can_be_empty(statement, place):
    """Whether one of the blocks of a statement, told by its place among them, can be empty."""
    if statement[0] == "if":
        return place == 1
    return statement[0] == "try" and len(statement[2]) > 0 and place == len(statement[2]) + 1


def with_blocks(statement, blocks):
    """A statement with other blocks, in the order of blocks_of."""
    if statement[0] == "if":
        return ("if", statement[1], blocks[0], blocks[1])
    if statement[0] == "try":
        handlers = [(row[0], row[1], block) for row, block in zip(statement[2], blocks[1:])]
        return ("try", blocks[0], tuple(handlers), blocks[-1])
    return (*statement[:3], blocks[0])
