"""What is a program, and what is not."""

from turnedparts.errors import BadProgram
from turnedparts.looking import Looker
from turnedparts.rules import faults_of
from turnedparts.tops import Tops
from turnedparts.words import is_name

MOST_MODULES = 8


def check_program(program):
    """Raise BadProgram, if a value is no program."""
    checked(program)


def checked(program):
    """What is known of a program that was looked through (BadProgram: it is none)."""
    if not isinstance(program, dict) or not 1 <= len(program) <= MOST_MODULES:
        raise BadProgram(None, None)
    if not all([is_name(module) for module in program]):
        raise BadProgram(None, None)
    names = {}
    lookers = []
    for module in sorted(program):
        if not isinstance(program[module], tuple):
            raise BadProgram(module, None)
        looker = Looker(module, names)
        looker.look_at_top(program[module])
        lookers.append(looker)
    functions = {(looker.module, scope.number): scope for looker in lookers for scope in looker.scopes}
    classes = {(looker.module, number): rows for looker in lookers for number, rows in looker.classes}
    tops = Tops({looker.module: looker.rows for looker in lookers}, functions, classes)
    for looker in lookers:
        faults = faults_of(looker, tops)
        if faults:
            raise BadProgram(looker.module, min(faults))
    return tops


def is_program(program):
    """Whether a value is a program."""
    try:
        check_program(program)
    except BadProgram:
        return False
    return True
