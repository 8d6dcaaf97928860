"""Defs of functions made methods of classes that hold what they use."""

from turnedparts.errors import NotPlain
from turnedparts.parts import defaults_of, inside
from turnedparts.places import is_within, part_at, with_parts

STILL = ("text", "none")


def see_can_be_boxed(names, module, home, path, function):
    """What a def uses of the function around, a dict from names to their places; NotPlain, if it cannot be boxed.

    The home is the path of the function around.
    """
    for inner in inside(function[3]):
        if inner[0] in ("nonlocal", "yield", "def"):
            raise NotPlain("body")
    used = {}
    for (where, place), spot in sorted_spots(names):
        if where != module or not is_within(place, path, 3, 4) or spot.role not in ("use", "give"):
            continue
        scope, name = spot.variable[1:]
        if scope == () or scope[:len(path)] == path:
            continue
        if scope != home or name in (function[1], "run", "make"):
            raise NotPlain("body")
        used.setdefault(name, []).append(place)
    if not all([default[0] in STILL for default in defaults_of(function[2])]):
        raise NotPlain("default")
    return used


def sorted_spots(names):
    return [(key, names.spots[key]) for key in sorted(names.spots)]


def box_of(block, path, name, first, used):
    """The class of a def at a path of a module's block; first is the name of the front parameters."""
    function = part_at(block, path)
    front = (first, "front", None)
    params = tuple([(told, "plain", None) for told in sorted(used)])
    fields = tuple([("set", ("name", first), told, ("name", told)) for told in sorted(used)])
    made = ("def", "make", (front, *params), fields if fields else (("pass",),))
    run = ("def", "run", (front, *function[2]), with_fields(function[3], (*path, 3), first, used))
    return ("class", name, (), (made, run))


def with_fields(block, path, first, used):
    """A block at a path with fields in the place of names."""
    rows = []
    for name in used:
        field = ("attr", ("name", first), name)
        rows.extend([(place[len(path):-1], field) for place in used[name]])
    return with_parts(block, rows)
