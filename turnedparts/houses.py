"""Houses: programs that are changed module by module."""

from turnedparts.alikes import judge
from turnedparts.errors import BadProgram, NoModule, NotAlike
from turnedparts.outside import seen
from turnedparts.programs import check_program, is_program
from turnedparts.reading import read_module
from turnedparts.taking import in_order
from turnedparts.writing import lines_of

# A line that begins with one of these is no statement's.
REST_WORDS = ("else", "except", "finally")


class House:
    """Holds a program; a strict one refuses changes that do not leave it alike."""

    PLACES = 4

    def __init__(self, program, *, strict=False):
        check_program(program)
        # Never changed itself, so that what is kept of it stays as it is.
        self._held = in_ascending_order(program)
        # What the trial goes back to that is on, None outside of trials.
        self._back = None
        self.strict = strict

    # No module can have a name as long as that of the first parameter.
    @classmethod
    def of_texts(class_of_house, *, strict=False, **texts):
        """The house of the texts of modules, told by their names."""
        program = {module: read_module(texts[module]) for module in texts}
        return class_of_house(program, strict=strict)

    @staticmethod
    def can_be(program):
        """Whether a value is a program."""
        return is_program(program)

    @property
    def contents(self):
        """A dict like the program, its modules ascending."""
        return {module: self._held[module] for module in self._held}

    def be_strict(self, strict=True):
        """Be strict from here on, or be so no more."""
        self.strict = strict

    def __len__(self):
        return len(self._held)

    def __iter__(self):
        return iter(self._held)

    def __contains__(self, module):
        return module in self._held

    def __eq__(self, other):
        return isinstance(other, House) and self._held == other._held

    def both(self, other):
        """The house of the modules of both, the other one's where both have one, strict as that one is."""
        return House({**self._held, **other._held}, strict=other.strict)

    def __call__(self, use, world):
        """The list of the events of a use in a world."""
        return seen(self._held, use, world)

    def put(self, module, block):
        """Put a module, new or in the place of one; this house."""
        self._held = self._behind(self._held, with_module(self._held, module, block))
        return self

    def put_all(self, *rows):
        """Put several modules, pairs of a name and a block, one behind the other, or none; this house."""
        held = self._held
        for module, block in rows:
            held = self._behind(held, with_module(held, module, block))
        self._held = held
        return self

    def drop(self, module):
        """Take a module away; its block."""
        block = self._block(module)
        self._held = self._behind(self._held, {name: self._held[name] for name in self._held if name != module})
        return block

    def _behind(self, held, program):
        """A program in the place of the one that is held, its modules ascending, if it is not refused."""
        check_program(program)
        if self.strict:
            found = judge(held, program)
            if not found:
                raise NotAlike(found)
        return in_ascending_order(program)

    def _block(self, module):
        if module not in self._held:
            raise NoModule(module)
        return self._held[module]

    def trial(self, work):
        """What a function returns that is called with this house, which then is as it was, or was kept."""
        around = self._back
        self._back = self._held
        try:
            return work(self)
        finally:
            self._held = self._back
            self._back = around

    def keep(self):
        """Let the trial that is on go back to what is held now."""
        if self._back is not None:
            self._back = self._held

    def each_statement(self, kind=None):
        """The triples of a module, a number and a statement, of one kind or of all, in order."""
        return [(module, number, statement) for module in self._held
                for number, statement in enumerate(in_order(self._held[module]))
                if kind is None or statement[0] == kind]

    def text(self, module, *, numbers=False):
        """The text of a module, with the numbers of its statements, or without."""
        lines = lines_of(self._block(module), 0)
        if numbers:
            lines = with_numbers(lines, House.PLACES)
        return "".join([f"{line}\n" for line in lines])


def in_ascending_order(program):
    return {module: program[module] for module in sorted(program)}


def with_module(program, module, block):
    if not isinstance(module, str):
        raise BadProgram(None, None)
    return {**program, module: block}


def with_numbers(lines, places):
    """Lines with the numbers of their statements in front, in so many places, or blanks."""
    found = []
    number = 0
    for line in lines:
        told = ""
        if not is_rest(line):
            told = str(number)
            number += 1
        found.append(f"{told.rjust(places)}  {line}")
    return found


def is_rest(line):
    """Whether a line stands for no statement, but for a further block of one."""
    word = line.strip(" ").partition(" ")[0]
    return word.rstrip(":") in REST_WORDS


def watcher(house):
    """A function that returns the list of the modules that are others since it was last called."""
    last = house.contents

    def news():
        nonlocal last
        now = house.contents
        names = sorted({**last, **now})
        found = [name for name in names if name not in last or name not in now or last[name] != now[name]]
        last = now
        return found

    return news
