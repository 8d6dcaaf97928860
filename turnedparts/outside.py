"""What programs are used for from outside, and what is seen there."""

from turnedparts.asking import check_use, watch
from turnedparts.codes import Built
from turnedparts.forms import uses_of
from turnedparts.machine import Run
from turnedparts.meanings import Told
from turnedparts.programs import checked


def uses(one, other=None):
    """The ascending list of the uses of a program, or of two."""
    programs = [one] if other is None else [one, other]
    return uses_of([Built(checked(program)) for program in programs])


def seen(program, use, world):
    """The list of the events of a use of a program in a world."""
    tops = checked(program)
    check_use(use)
    return watch(Run(Built(tops), Told(world)), use)
