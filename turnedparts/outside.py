"""What programs are used for from outside, and what is seen there."""

from turnedparts.asking import check_use, watch
from turnedparts.codes import Built
from turnedparts.forms import uses_of
from turnedparts.machine import Run
from turnedparts.meanings import Told
from turnedparts.programs import check_program


def uses(one, other=None):
    """The ascending list of the uses of a program, or of two."""
    programs = [one] if other is None else [one, other]
    for program in programs:
        check_program(program)
    return uses_of([Built(program) for program in programs])


def seen(program, use, world):
    """The list of the events of a use of a program in a world."""
    check_program(program)
    check_use(use)
    return watch(Run(Built(program), Told(world)), use)
