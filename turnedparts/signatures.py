"""Functions with other parameters, and calls that give what these need."""

from turnedparts.arguments import Giving, given_by_call
from turnedparts.bound import Names
from turnedparts.errors import BadPlace, BadPlan, NotPlain
from turnedparts.fresh import fresh_names, strings_of
from turnedparts.parts import defaults_of
from turnedparts.places import is_within, part_at, place_of, with_block, with_part
from turnedparts.programs import check_program, is_program
from turnedparts.shapes import are_params
from turnedparts.words import is_public

STILL = ("text", "none")
# The statements that can be all that a call is, with where it stands in them.
ALL_OF = {"let": 2, "do": 1, "return": 1, "see": 1}


class Change:
    """A program with other parameters, and the numbers of what some calls have done ahead of them."""

    def __init__(self, program, puts):
        self.program = {module: program[module] for module in program}
        self.puts = {call: puts[call] for call in puts}

    def __eq__(self, other):
        return isinstance(other, Change) and self.program == other.program and self.puts == other.puts


def change(program, module, name, plan):
    """The change that gives a private def of a top the parameters of a plan."""
    check_program(program)
    names = Names(program)
    path, function = private_def(names, module, name)
    see_plan(function, plan)
    see_block(names, module, path, function, plan)
    calls = calls_of(names, module, name)
    late = {**program, module: with_part(program[module], (*path, 2), plan)}
    puts = {}
    for home, place in reversed(calls):
        late, ahead = turned_call(late, home, place, function[2], plan)
        if ahead:
            puts[(home, place)] = tuple(ahead)
    return Change(late, puts)


def private_def(names, module, name):
    """The path of a private def of a module's top, and the def."""
    if not isinstance(module, str) or not isinstance(name, str) or not names.tops.has(module, name):
        raise BadPlace("no name of a top")
    place, statement = names.givers[(module, (), name)][0]
    if is_public(name) or statement[0] != "def":
        raise BadPlace("no private def")
    return place[:-1], statement


def see_plan(function, plan):
    """Raise BadPlan, if a value is no plan for a function."""
    if not are_params(plan):
        raise BadPlan("no parameters")
    old = [row[0] for row in function[2]]
    for name, _, default in plan:
        if default is None and name not in old:
            raise BadPlan("a new parameter without a default")
        if default is not None and default[0] not in STILL:
            raise BadPlan("a default that is no text and not none")


def see_block(names, module, path, function, plan):
    """Raise NotPlain, if a function, for itself, cannot have the parameters of a plan."""
    if not all([default[0] in STILL for default in defaults_of(function[2])]):
        raise NotPlain("default")
    old = {row[0]: True for row in function[2]}
    new = {row[0]: True for row in plan}
    spots = [(place, names.spots[(home, place)].variable) for home, place in names.spots
             if home == module and is_within(place, path, 3, 4)]
    for _, variable in spots:
        if variable is not None and variable[:2] == (module, path) and variable[2] in old and variable[2] not in new:
            raise NotPlain("used")
    block = names.program[module]
    for place, _ in spots:
        name = part_at(block, place)
        if name in new and name not in old:
            raise NotPlain("name")


def calls_of(names, module, name):
    """The ascending pairs of a module and a path of the calls of a function (NotPlain: it is not only called)."""
    meant = {}
    for home in names.tops.rows:
        for called in names.tops.rows[home]:
            if names.behind_takes((home, (), called)) == (module, (), name):
                meant[(home, (), called)] = True
    if any([is_public(variable[2]) for variable in meant]):
        raise NotPlain("public")
    found = []
    for home, place in sorted(names.spots):
        spot = names.spots[(home, place)]
        if spot.variable in meant and spot.role in ("use", "attr"):
            if not is_called(names.program[home], place[:-1]):
                raise NotPlain("value")
            found.append((home, place[:-2]))
    return sorted(found)


def is_called(block, path):
    """Whether the expression at a path is called."""
    told = part_at(block, path[:-1])
    # A named argument can have the name call, but is a pair.
    return path[-1] == 1 and told[0] == "call" and len(told) == 4


def turned_call(program, module, path, params, plan):
    """The program with a call turned for a plan, and the numbers of what is done ahead of it."""
    block = program[module]
    told = part_at(block, path)
    given = given_by_call(told, params)
    if given is None:
        raise NotPlain("call")
    giving = Giving(given, params, plan)
    lets = giving.let_ahead()
    names = dict(zip(lets, fresh_names(strings_of(program), len(lets))))
    late = giving.call(told[1], names)
    if giving.ahead:
        place = place_around(program, module, path)
        at = path[-2]
        statement = with_part(place.block[at], path[-1:], late)
        put = (*giving.statements(names), statement)
        program = with_block(program, place, (*place.block[:at], *put, *place.block[at + 1:]))
    else:
        program = {**program, module: with_part(block, path, late)}
    if not is_program(program):
        raise NotPlain("large")
    return program, giving.ahead


def place_around(program, module, path):
    """The place of the block with the statement that a call is all of (NotPlain: there is none)."""
    try:
        place = place_of(program, module, path[:-2])
    except BadPlace:
        raise NotPlain("place") from None
    statement = place.block[path[-2]]
    if ALL_OF.get(statement[0]) != path[-1]:
        raise NotPlain("place")
    return place
