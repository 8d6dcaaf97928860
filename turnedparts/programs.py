"""What is a program, and what is not."""

from turnedparts.errors import BadProgram
from turnedparts.parts import blocks_of
from turnedparts.rules import Rules
from turnedparts.shapes import DEEPEST, fits_statement
from turnedparts.tops import Tops
from turnedparts.words import is_name

MOST_MODULES = 8
MOST_STATEMENTS = 200


def check_program(program):
    """Raise BadProgram, if a value is no program."""
    if not isinstance(program, dict) or not 1 <= len(program) <= MOST_MODULES:
        raise BadProgram(None, None)
    if not all([is_name(module) for module in program]):
        raise BadProgram(None, None)
    for module in sorted(program):
        check_form(module, program[module])
    tops = Tops(program)
    for module in sorted(program):
        rules = Rules(tops, module)
        rules.look_at_top(program[module])
        if rules.faults:
            raise BadProgram(module, min(rules.faults))


def is_program(program):
    """Whether a value is a program."""
    try:
        check_program(program)
    except BadProgram:
        return False
    return True


def check_form(module, block):
    if not isinstance(block, tuple):
        raise BadProgram(module, None)
    check_block(module, block, 0, 1)


def check_block(module, block, number, depth):
    """Look at the forms of a block's statements; the number behind them."""
    for statement in block:
        if number >= MOST_STATEMENTS or depth > DEEPEST or not fits_statement(statement):
            raise BadProgram(module, number)
        number = number + 1
        for inner in blocks_of(statement):
            number = check_block(module, inner, number, depth + 1)
    return number
