"""Statements of functions turned into others, whether this leaves the program alike or not."""

from turnedparts.boxing import box_of, see_can_be_boxed
from turnedparts.bound import Names
from turnedparts.errors import NotPlain
from turnedparts.extracting import call_of
from turnedparts.fresh import comes_nowhere, fresh_names, strings_of
from turnedparts.parts import inside
from turnedparts.places import place_of, statement_of, with_block
from turnedparts.programs import check_program, is_program
from turnedparts.words import is_public

# The statements that end with an expression that can be a choice, each with all of one form.
ENDING = ("let", "do", "return", "see", "yield")


class Turn:
    """A statement of a block of a function that is to be turned, of some kinds, or of any, if None."""

    def __init__(self, program, module, path, number, kinds):
        check_program(program)
        self.program = program
        self.place = place_of(program, module, path)
        self.number = number
        self.statement = statement_of(self.place.block, number)
        self.see(kinds is None or self.statement[0] in kinds, "kind")

    def see(self, goes, why):
        """Raise NotPlain with a word, if a turn does not go."""
        if not goes:
            raise NotPlain(why)

    def neighbour(self):
        """The statement behind, or None."""
        at = self.number + 1
        return self.place.block[at] if at < len(self.place.block) else None

    def into(self, statements, many):
        """The program with statements in the place of so many."""
        block = self.place.block
        late = with_block(self.program, self.place, (*block[:self.number], *statements, *block[self.number + many:]))
        self.see(is_program(late), "large")
        return late


def lazy(program, module, path, place, name):
    """The program in which a for goes through the items of a generator."""
    turn = Turn(program, module, path, place, ("for",))
    turn.see(comes_nowhere(program, name), "name")
    _, given, items, block = turn.statement
    turn.see(items, "items")
    walk = ("def", name, (), tuple([("yield", told) for told in items]))
    return turn.into((walk, ("each", given, call_of(name)[1], block)), 1)


def eager(program, module, path, place):
    """The program in which an each of the generator of a def right ahead of it is a for."""
    turn = Turn(program, module, path, place, ("def",))
    _, name, params, block = turn.statement
    turn.see(not params and all([inner[0] == "yield" for inner in block]), "items")
    late = turn.neighbour()
    turn.see(late is not None and late[0] == "each" and late[2] == call_of(name)[1], "loop")
    names = Names(program)
    front = turn.place.path
    places = [(module, (*front, place, 1)), (module, (*front, place + 1, 2, 1, 1))]
    turn.see(names.places_of(names.spots[places[0]].variable) == places, "loop")
    return turn.into((("for", late[1], tuple([inner[1] for inner in block]), late[3]),), 2)


def unrolled(program, module, path, place):
    """The program in which the block of a for stands once for each item."""
    turn = Turn(program, module, path, place, ("for",))
    _, given, items, block = turn.statement
    turn.see(not any([inner[0] in ("def", "nonlocal") for inner in inside(block)]), "body")
    turn.see(items, "items")
    return turn.into([inner for told in items for inner in (("let", given, told), *block)], 1)


def branched(program, module, path, place):
    """The program in which a statement of a choice is an if."""
    turn = Turn(program, module, path, place, ENDING)
    told = turn.statement[-1]
    turn.see(told is not None and told[0] == "choice", "choice")
    front = turn.statement[:-1]
    return turn.into((("if", told[1], ((*front, told[2]),), ((*front, told[3]),)),), 1)


def chosen(program, module, path, place):
    """The program in which an if of two statements is one statement of a choice."""
    turn = Turn(program, module, path, place, ("if",))
    _, condition, block, rest = turn.statement
    turn.see(len(block) == 1 and len(rest) == 1, "branches")
    one, other = block[0], rest[0]
    turn.see(one[0] in ENDING and one[:-1] == other[:-1], "branches")
    turn.see(one[-1] is not None and other[-1] is not None, "branches")
    return turn.into(((*one[:-1], ("choice", condition, one[-1], other[-1])),), 1)


def taken_out(program, module, path, place):
    """The program in which the statement that ends both blocks of an if stands behind it."""
    turn = Turn(program, module, path, place, ("if",))
    _, condition, block, rest = turn.statement
    turn.see(len(block) > 1 and len(rest) > 1 and block[-1] == rest[-1], "branches")
    return turn.into((("if", condition, block[:-1], rest[:-1]), block[-1]), 1)


def put_in(program, module, path, place):
    """The program in which the statement behind an if ends both of its blocks."""
    turn = Turn(program, module, path, place, ("if",))
    late = turn.neighbour()
    turn.see(late is not None and late[0] not in ("def", "nonlocal"), "branches")
    _, condition, block, rest = turn.statement
    return turn.into((("if", condition, (*block, late), (*rest, late)),), 2)


def exchanged(program, module, path, place):
    """The program in which a statement and the one behind it change places."""
    turn = Turn(program, module, path, place, None)
    return turn.into((statement_of(turn.place.block, place + 1), turn.statement), 2)


def boxed(program, module, path, place, name):
    """The program in which a def of a function is a method of an object of a new class."""
    turn = Turn(program, module, path, place, ("def",))
    turn.see(comes_nowhere(program, name) and not is_public(name), "name")
    home = turn.place.home
    used = see_can_be_boxed(Names(program), module, home, (*turn.place.path, place), turn.statement)
    taken = {**strings_of(program), name: True}
    family = box_of(program[module], (*turn.place.path, place), name, fresh_names(taken, 1)[0], used)
    arguments = tuple([("name", told) for told in sorted(used)])
    thing = ("call", ("name", name), arguments, ())
    turn.program = {**program, module: (*program[module], family)}
    return turn.into((("let", turn.statement[1], ("attr", thing, "run")),), 1)
