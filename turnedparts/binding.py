"""What each name that stands in a program means."""

from turnedparts.bound import Names
from turnedparts.programs import check_program


def bindings(program):
    """The ascending list of the triples of a module, the place of a name, and the variable that it means."""
    check_program(program)
    spots = Names(program).spots
    return [(module, path, spots[(module, path)].variable) for module, path in sorted(spots)]
