"""Steps of two hands: whether they go together, one by one, and in rows."""

from turnedparts.errors import BadNames, BadPlace, Caught, Fixed, Gone, NotPlain
from turnedparts.programs import check_program


class Together:
    """That two steps go together; has the program that both give."""

    def __init__(self, program):
        self.program = copied(program)

    def __eq__(self, other):
        return isinstance(other, Together) and self.program == other.program

    def __bool__(self):
        return True

    def shows(self, program, one, other):
        """Whether two steps go together on a program, and give this one."""
        return commute(program, one, other) == self


class Against:
    """That two steps do not go together; has the programs behind both in either order, None if there is none."""

    def __init__(self, one, other):
        self.one = copied(one)
        self.other = copied(other)

    def __eq__(self, other):
        return isinstance(other, Against) and self.one == other.one and self.other == other.other

    def __bool__(self):
        return False

    def shows(self, program, one, other):
        """Whether two steps do not go together on a program, and give these programs."""
        return commute(program, one, other) == self


class Merged:
    """What the steps of two hands come to, and those of each hand behind all of the other hand."""

    def __init__(self, program, ones, others):
        self.program = copied(program)
        self.ones = [step.copied() for step in ones]
        self.others = [step.copied() for step in others]

    def __eq__(self, other):
        return (isinstance(other, Merged) and self.program == other.program and self.ones == other.ones
                and self.others == other.others)

    def __bool__(self):
        return True


class Clash:
    """The numbers of the first steps of two hands that do not go together, and their Against."""

    def __init__(self, one, other, told):
        self.one = one
        self.other = other
        self.told = Against(told.one, told.other)

    def __eq__(self, other):
        return (isinstance(other, Clash) and self.one == other.one and self.other == other.other
                and self.told == other.told)

    def __bool__(self):
        return False


class Square:
    """Steps of two hands, square by square: programs, and steps carried, by how many are done of each hand."""

    def __init__(self, program, ones, others):
        self.programs = {(0, 0): program}
        self.ones = {(at, 0): step for at, step in enumerate(ones)}
        self.others = {(0, at): step for at, step in enumerate(others)}
        for at, step in enumerate(ones):
            self.programs[(at + 1, 0)] = step.done(self.programs[(at, 0)])
        for at, step in enumerate(others):
            self.programs[(0, at + 1)] = step.done(self.programs[(0, at)])

    def look(self, one, other):
        """Whether the steps of a square go together; what comes of them is kept, if they do."""
        place = (one, other)
        program, first, second = self.programs[place], self.ones[place], self.others[place]
        found = commute(program, first, second)
        if found:
            self.programs[(one + 1, other + 1)] = found.program
            self.ones[(one, other + 1)] = first.carried(program, second)
            self.others[(one + 1, other)] = second.carried(program, first)
        return found


def copied(program):
    return None if program is None else {module: program[module] for module in program}


def commute(program, one, other):
    """Whether two steps go together on a program."""
    check_program(program)
    first = behind_both(program, one, other)
    second = behind_both(program, other, one)
    if first is not None and first == second:
        return Together(first)
    return Against(first, second)


def behind_both(program, one, other):
    """The program behind a step and another one carried behind it, or None."""
    try:
        late = one.done(program)
        return other.carried(program, one).done(late)
    except (BadNames, Fixed, Caught, BadPlace, NotPlain, Gone):
        return None


def merged(program, ones, others):
    """What the steps of two hands come to together, or where they do not go together."""
    check_program(program)
    square = Square(program, ones, others)
    many, more = len(ones), len(others)
    for total in range(many + more - 1):
        for one in range(total + 1):
            other = total - one
            if one < many and other < more:
                found = square.look(one, other)
                if not found:
                    return Clash(one, other, found)
    early = [square.ones[(at, more)] for at in range(many)]
    late = [square.others[(many, at)] for at in range(more)]
    return Merged(square.programs[(many, more)], early, late)
