"""Statements that may be left out of a program, and why the others may not."""

from turnedparts.alikes import Unlike, gone_through
from turnedparts.codes import Built
from turnedparts.errors import BadProgram, Handed, Ring, TooLarge
from turnedparts.forms import uses_of
from turnedparts.judging import Kept
from turnedparts.programs import checked
from turnedparts.reach import Reach
from turnedparts.taking import in_order, without


class Lean:
    """What is left of a program, and why each statement of it that is no pass stays."""

    def __init__(self, program, reasons):
        self.program = {module: program[module] for module in program}
        self.reasons = [copied(reason) for reason in reasons]

    def __eq__(self, other):
        return isinstance(other, Lean) and self.program == other.program and self.reasons == other.reasons

    def shows(self, program):
        """Whether this is what is left of a program, with the reasons."""
        found = lean(program)
        if self.program != found.program or len(self.reasons) != len(found.reasons):
            return False
        for at, less in enumerate(without_each(found.program)):
            if not is_reason(self.reasons[at], found.reasons[at], found.program, less):
                return False
        return True


class Turns:
    """A program from which statements are taken away, turn by turn."""

    def __init__(self, program):
        tops = checked(program)
        self.left = {module: program[module] for module in program}
        self.kept = Kept(tops)
        self.reach = Reach(tops)
        self.reasons = []

    def see_no_errors(self):
        """Raise what judging the program and itself raises."""
        for use in uses_of([self.kept.built]):
            self.kept.plain_leaves(use)

    def turn(self):
        """Try each statement, from the last one to the first one; whether one is taken away."""
        self.reasons = []
        is_any_taken = False
        modules = sorted(self.left)
        for module in reversed(modules):
            many = len(in_order(self.left[module]))
            # What is taken away leaves the numbers of what stands ahead of it as they are.
            for number in reversed(range(many)):
                if not is_pass(in_order(self.left[module])[number]) and self.takes_away(module, number):
                    is_any_taken = True
        self.reasons.reverse()
        return is_any_taken

    def takes_away(self, module, number):
        """Take a statement away, if this changes nothing; keep the reason, if not."""
        less = {**self.left, module: without(self.left[module], number)}
        try:
            tops = checked(less)
        except BadProgram:
            self.reasons.append(None)
            return False
        is_alike, reason = self.compared(Built(tops), self.reach.hanging_on(module, number))
        if is_alike:
            self.left = less
            self.kept = Kept(tops)
            self.reach = Reach(tops)
        else:
            self.reasons.append(reason)
        return is_alike

    def compared(self, built, names):
        """Whether a program is alike to what is left, and the Unlike, or None.

        Only names of tops that are told can tell them apart: all else is the same in both, and
        what is left was judged without errors.
        """
        try:
            unlike = gone_through(self.kept, built, uses_of([self.kept.built, built], names))[1]
        except (Ring, Handed, TooLarge):
            return False, None
        return unlike is None, unlike


def lean(program):
    """What is left of a program without the statements that change nothing, and the reasons for the others."""
    turns = Turns(program)
    turns.see_no_errors()
    while turns.turn():
        pass
    return Lean(turns.left, turns.reasons)


def is_pass(statement):
    return statement[0] == "pass"


def without_each(program):
    """The programs without one of the statements that are no pass, by ascending modules and numbers."""
    found = []
    for module in sorted(program):
        for number, statement in enumerate(in_order(program[module])):
            if not is_pass(statement):
                found.append({**program, module: without(program[module], number)})
    return found


def is_reason(reason, known, program, less):
    """Whether a reason for a statement is as good as one that is known."""
    if reason is None or known is None:
        return reason is None and known is None
    try:
        return isinstance(reason, Unlike) and reason.shows(program, less)
    except (Ring, Handed):
        return False


def copied(reason):
    return None if reason is None else Unlike(reason.use, reason.world, reason.place)
