"""New names for variables of a program, and the fewest further ones that keep them from catching places."""

from turnedparts.errors import BadNames, Caught, Fixed
from turnedparts.programs import check_program
from turnedparts.renames import Variables


def variables(program):
    """The ascending list of the variables of a program."""
    check_program(program)
    return sorted(Variables(program).places)


def renamed(program, names):
    """A program with new names for variables."""
    check_program(program)
    found = Variables(program)
    found.see_names(names)
    place = found.caught(names)
    if place is not None:
        raise Caught(place[0], place[1])
    return found.renamed(names)


class Repairs:
    """Names with those of the fewest further variables, and the place for which each of these has one."""

    def __init__(self, names, places):
        self.names = {variable: names[variable] for variable in names}
        self.places = {variable: places[variable] for variable in places}

    def __eq__(self, other):
        return isinstance(other, Repairs) and self.names == other.names and self.places == other.places

    def shows(self, program, names):
        """Whether these are repairs of names for a program."""
        check_program(program)
        found = Variables(program)
        try:
            found.see_names(names)
            places = needed(found, names)
            found.see_names(self.names)
        except (BadNames, Fixed, Caught):
            return False
        asked = {**self.names, **names}
        if self.places != places or self.names != asked or len(asked) != len(names) + len(places):
            return False
        return all([variable in asked for variable in places]) and found.caught(self.names) is None


def repairs(program, names):
    """Names that catch no place, with as few more as can be."""
    check_program(program)
    found = Variables(program)
    found.see_names(names)
    places = needed(found, names)
    fresh = found.fresh(names, len(places))
    return Repairs({**names, **dict(zip(places, fresh))}, places)


def needed(found, names):
    """A dict from the further variables that must have new names to the places that they catch else.

    Whether one must have a new name hangs on those that are asked for, not on further ones.
    """
    others = found.further(names)
    rest = dict(zip(others, found.fresh(names, len(others))))
    place = found.caught({**names, **rest})
    if place is not None:
        raise Caught(place[0], place[1])
    places = {}
    for variable in others:
        less = {other: rest[other] for other in rest if other != variable}
        place = found.caught({**names, **less})
        if place is not None:
            places[variable] = place
    return places
