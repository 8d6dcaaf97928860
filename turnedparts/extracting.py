"""Statements made a function of their own, and functions made statements again."""

from turnedparts.bound import Names
from turnedparts.errors import BadPlace, NotPlain
from turnedparts.fresh import comes_nowhere
from turnedparts.parts import beyond_of, given_in, inside, own_names
from turnedparts.places import is_within, place_of, statement_of, with_block
from turnedparts.programs import check_program, is_program
from turnedparts.words import is_whole


def extract(program, module, path, first, behind, name):
    """The program in which the statements from first to below behind of a block are a function."""
    check_program(program)
    place = place_of(program, module, path)
    if not is_whole(first) or not is_whole(behind) or not 0 <= first < behind <= len(place.block):
        raise BadPlace("no such statements")
    statements = place.block[first:behind]
    see_can_be_moved(inside(statements))
    if not comes_nowhere(program, name):
        raise NotPlain("name")
    beyond = names_from_beyond(place.function, statements)
    see_own_names(program, place, first, behind, beyond)
    block = (("nonlocal", beyond), *statements) if beyond else statements
    put = (("def", name, (), block), call_of(name))
    late = with_block(program, place, (*place.block[:first], *put, *place.block[behind:]))
    if not is_program(late):
        raise NotPlain("large")
    return late


def see_can_be_moved(statements):
    """Raise NotPlain, if statements, with those in them, cannot be a function's block."""
    kinds = {statement[0]: True for statement in statements}
    if "return" in kinds or "yield" in kinds:
        raise NotPlain("leaves")
    for word in ("set", "nonlocal"):
        if word in kinds:
            raise NotPlain(word)


def call_of(name):
    """The statement that calls a function without arguments."""
    return ("do", ("call", ("name", name), (), ()))


def names_from_beyond(function, statements):
    """The names that some of a function's statements give, and that stay the function's, as they stand."""
    kept = {name: True for name in beyond_of(function[3])}
    for row in function[2]:
        kept[row[0]] = True
    here = given_in(statements)
    everywhere = given_in(function[3])
    found = [name for name in here if name in kept or everywhere.count(name) > here.count(name)]
    return without_doubles(found)


def without_doubles(names):
    return tuple(list({name: True for name in names}))


def see_own_names(program, place, first, behind, beyond):
    """Raise NotPlain, if a name that statements give cannot be their own function's."""
    names = Names(program)
    for name in without_doubles(given_in(place.block[first:behind])):
        if name in beyond:
            continue
        variable = (place.module, place.home, name)
        for module, path in names.places_of(variable):
            if not is_within(path, place.path, first, behind):
                raise NotPlain("alone")
        if place.is_in_loop:
            see_given_anew(names, variable, [(*place.path, number) for number in range(first, behind)])


def see_given_anew(names, variable, paths):
    """Raise NotPlain, unless a variable is sure to be given first in each round of a loop.

    The paths are those of the statements that are to be another function's, or are one's own.
    """
    places = names.places_of(variable)
    if not all([names.spots[key].place == variable[1] for key in places]):
        raise NotPlain("loop")
    module, first = places[0]
    path = first[:-1]
    if path not in paths or not names.is_let(module, path):
        raise NotPlain("loop")
    if len(places) > 1 and places[1][1][:len(path)] == path:
        raise NotPlain("loop")


def put_back(program, module, path, number):
    """The program in which a def of a block is made statements again, with the call behind it."""
    check_program(program)
    place = place_of(program, module, path)
    statement = statement_of(place.block, number)
    behind = statement_of(place.block, number + 1)
    names = Names(program)
    if not is_called_once(names, place, number, statement, behind):
        raise NotPlain("call")
    beyond, statements = without_nonlocal(statement[3])
    kinds = {inner[0]: True for inner in inside(statements)}
    if not statements or "return" in kinds or "yield" in kinds or "nonlocal" in kinds:
        raise NotPlain("leaves")
    outer = names_of_function(place.function)
    if not all([name in outer for name in beyond]):
        raise NotPlain("nonlocal")
    inner_path = (*place.path, number)
    for name in sorted(own_names((), statement[3])):
        if name in outer or is_used_from_outside(names, place, name):
            raise NotPlain("name")
        if place.is_in_loop:
            many = len(statement[3])
            paths = [(*inner_path, 3, at) for at in range(many - len(statements), many)]
            see_given_anew(names, (place.module, inner_path, name), paths)
    return with_block(program, place, (*place.block[:number], *statements, *place.block[number + 2:]))


def is_called_once(names, place, number, statement, behind):
    """Whether a statement is a def without parameters, and only called right behind it."""
    if statement[0] != "def" or statement[2] or behind != call_of(statement[1]):
        return False
    early = (place.module, (*place.path, number, 1))
    late = (place.module, (*place.path, number + 1, 1, 1, 1))
    return names.places_of(names.spots[early].variable) == [early, late]


def without_nonlocal(block):
    """The names of a nonlocal that stands first in a block, and the other statements."""
    if block[0][0] == "nonlocal":
        return block[0][1], block[1:]
    return (), block


def names_of_function(function):
    """A dict whose keys are the names that are a function's own, or nonlocal in it."""
    beyond = {name: True for name in beyond_of(function[3])}
    return {**own_names(function[2], function[3]), **beyond}


def is_used_from_outside(names, place, name):
    """Whether a name stands in a function's block for a variable of a scope outside of the function."""
    front = (*place.home, 3)
    for (module, path), spot in names.spots.items():
        if module == place.module and path[:len(front)] == front and spot.role in ("use", "give", "nonlocal"):
            variable = spot.variable
            if variable[2] == name and variable[1][:len(place.home)] != place.home:
                return True
    return False
