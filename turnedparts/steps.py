"""Steps: changes that are done on programs, followed, and carried one behind the other."""

from turnedparts.bound import Names
from turnedparts.errors import Gone
from turnedparts.extracting import extract, put_back
from turnedparts.following import behind_back, behind_exchange, behind_extract, statements_behind
from turnedparts.programs import check_program
from turnedparts.renaming import renamed
from turnedparts.turning import exchanged
from turnedparts.words import is_whole


class Step:
    """What all steps are."""

    def done(self, program):
        """The program behind the step."""
        raise NotImplementedError("a step is one of the classes below")

    def __call__(self, program):
        return self.done(program)

    def follow(self, program, module, place):
        """Where a statement's place is behind the step."""
        return followed(self, program, module, place)

    def carried(self, program, other):
        """The step behind another one that is done on the program."""
        raise NotImplementedError("a step is one of the classes below")

    def __eq__(self, other):
        return type(self) is type(other)

    def __add__(self, other):
        return row_of(self, other)


class Rename(Step):
    """New names for variables."""

    def __init__(self, names):
        self.names = {**names} if isinstance(names, dict) else names

    def done(self, program):
        """The program with the new names."""
        return renamed(program, self.names)

    def __call__(self, program):
        return self.done(program)

    def behind(self, program, module, path):
        """Where a path is behind the step, or None."""
        return path

    def follow(self, program, module, place):
        """Where a statement's place is behind the step."""
        return followed(self, program, module, place)

    def carried(self, program, other):
        """The step behind another one: for what the first places that are left of its variables mean then."""
        late = Names(other.done(program))
        early = Names(program)
        names = {}
        for variable in self.names:
            names[variable_behind(program, early, variable, other, late)] = self.names[variable]
        return Rename(names)

    def copied(self):
        """A step with the same arguments."""
        return Rename(self.names)

    def __eq__(self, other):
        return isinstance(other, Rename) and self.names == other.names

    def __add__(self, other):
        return row_of(self, other)


class Extract(Step):
    """Some statements of a block made a function."""

    def __init__(self, module, path, first, many, name):
        self.module = module
        self.path = path
        self.first = first
        self.many = many
        self.name = name

    def done(self, program):
        """The program in which the statements are a function."""
        is_told = is_whole(self.first) and is_whole(self.many)
        behind = self.first + self.many if is_told else None
        return extract(program, self.module, self.path, self.first, behind, self.name)

    def __call__(self, program):
        return self.done(program)

    def behind(self, program, module, path):
        """Where a path is behind the step, or None."""
        return behind_extract(program, self, path) if module == self.module else path

    def follow(self, program, module, place):
        """Where a statement's place is behind the step."""
        return followed(self, program, module, place)

    def carried(self, program, other):
        """The step behind another one: for the same statements."""
        other.done(program)
        path, first = statements_behind(program, self, self.many, other)
        return Extract(self.module, path, first, self.many, self.name)

    def copied(self):
        """A step with the same arguments."""
        return Extract(self.module, self.path, self.first, self.many, self.name)

    def __eq__(self, other):
        return (isinstance(other, Extract) and self.module == other.module and self.path == other.path
                and self.first == other.first and self.many == other.many and self.name == other.name)

    def __add__(self, other):
        return row_of(self, other)


class Back(Step):
    """A def put back into its block."""

    def __init__(self, module, path, first):
        self.module = module
        self.path = path
        self.first = first

    def done(self, program):
        """The program in which the def is put back."""
        return put_back(program, self.module, self.path, self.first)

    def __call__(self, program):
        return self.done(program)

    def behind(self, program, module, path):
        """Where a path is behind the step, or None."""
        return behind_back(program, self, path) if module == self.module else path

    def follow(self, program, module, place):
        """Where a statement's place is behind the step."""
        return followed(self, program, module, place)

    def carried(self, program, other):
        """The step behind another one: for the same def and its call."""
        other.done(program)
        path, first = statements_behind(program, self, 2, other)
        return Back(self.module, path, first)

    def copied(self):
        """A step with the same arguments."""
        return Back(self.module, self.path, self.first)

    def __eq__(self, other):
        return (isinstance(other, Back) and self.module == other.module and self.path == other.path
                and self.first == other.first)

    def __add__(self, other):
        return row_of(self, other)


class Exchange(Step):
    """Two neighbours that change places."""

    def __init__(self, module, path, first):
        self.module = module
        self.path = path
        self.first = first

    def done(self, program):
        """The program in which the neighbours have changed places."""
        return exchanged(program, self.module, self.path, self.first)

    def __call__(self, program):
        return self.done(program)

    def behind(self, program, module, path):
        """Where a path is behind the step, or None."""
        return behind_exchange(self, path) if module == self.module else path

    def follow(self, program, module, place):
        """Where a statement's place is behind the step."""
        return followed(self, program, module, place)

    def carried(self, program, other):
        """The step behind another one: for the same neighbours."""
        other.done(program)
        path, first = statements_behind(program, self, 2, other)
        return Exchange(self.module, path, first)

    def copied(self):
        """A step with the same arguments."""
        return Exchange(self.module, self.path, self.first)

    def __eq__(self, other):
        return (isinstance(other, Exchange) and self.module == other.module and self.path == other.path
                and self.first == other.first)

    def __add__(self, other):
        return row_of(self, other)


class Row:
    """Steps, done one behind the other."""

    def __init__(self, steps):
        self.steps = [step.copied() for step in steps]

    def __call__(self, program):
        check_program(program)
        late = {module: program[module] for module in program}
        for step in self.steps:
            late = step.done(late)
        return late

    def __len__(self):
        return len(self.steps)

    def __eq__(self, other):
        return isinstance(other, Row) and self.steps == other.steps

    def __add__(self, other):
        return row_of(self, other)


def row_of(one, other):
    """The row of the steps of two steps or rows."""
    return Row([*steps_of(one), *steps_of(other)])


def steps_of(thing):
    return thing.steps if isinstance(thing, Row) else [thing]


def followed(step, program, module, place):
    """Where a statement's place is behind a step (Gone: nowhere)."""
    step.done(program)
    path = step.behind(program, module, place)
    if path is None:
        raise Gone("a statement that is no more there")
    return path


def variable_behind(program, early, variable, other, late):
    """The variable that the first place that is left of one means behind a step (Gone: there is none)."""
    for module, path in early.places_of(variable):
        place = other.behind(program, module, path)
        spot = None if place is None else late.spots.get((module, place))
        if spot is not None and spot.variable is not None:
            return spot.variable
    raise Gone("a variable that is no more there")
