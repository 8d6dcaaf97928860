"""The ways that a use can take: choices of what is left open, and what is seen behind them.

A condition is ("if", number) for whether a term is true, or ("go", many) for whether outside
goes on behind so many items.
"""

from turnedparts.asking import watch
from turnedparts.errors import TooLarge
from turnedparts.machine import Run
from turnedparts.meanings import flat

MOST_CONDITIONS = 60


class Unasked(Exception):
    """A condition that a use asks for, and that is not to be chosen."""


class Choices:
    """The meaning under which terms are kept, and conditions are chosen when they are asked for.

    The answers are told in the order of the conditions; where none is told any more, it is yes.
    """

    def __init__(self, terms, conditions, answers):
        self.terms = terms
        self.conditions = list(conditions)
        self.answers = answers
        self.chosen = {condition: answers[at] for at, condition in enumerate(conditions)}

    def reading(self, name):
        """The term of an input."""
        return self.terms.reading(name)

    def comes_to(self, name, values):
        """The term of an operation with values."""
        return self.terms.comes_to(name, values)

    def holds(self, number):
        """Whether the term with a number is true."""
        return self.choice(("if", number))

    def goes_on(self, many):
        """Whether outside goes on behind so many items."""
        return self.choice(("go", many))

    def choice(self, condition):
        """What is chosen for a condition."""
        if condition not in self.chosen:
            self.choose(condition)
        return self.chosen[condition]

    def choose(self, condition):
        at = len(self.conditions)
        if at == MOST_CONDITIONS:
            raise TooLarge("a way of a tree has too many conditions")
        self.chosen[condition] = self.answers[at] if at < len(self.answers) else True
        self.conditions.append(condition)


class Bound(Choices):
    """Choices of which there are to be no more than are told."""

    def choose(self, condition):
        raise Unasked("a condition that is not told")


class Leaf:
    """A way, with the conditions in the order in which they are asked for, and what is seen."""

    def __init__(self, choices, events):
        self.conditions = choices.conditions
        self.answers = [choices.chosen[condition] for condition in choices.conditions]
        self.events = events
        self.flats = [key_of(event) for event in events]


class Ways:
    """Goes through the ways of a use behind the first ones of some choices, yes first."""

    def __init__(self, built, use, terms, conditions, answers):
        self.built = built
        self.use = use
        self.terms = terms
        self.conditions = conditions
        self.answers = answers
        self.first = len(conditions)
        self.has_more = True

    def leaf(self):
        """The next way."""
        choices = Choices(self.terms, self.conditions, self.answers)
        leaf = Leaf(choices, watch(Run(self.built, choices), self.use))
        at = len(leaf.answers)
        while at > self.first and not leaf.answers[at - 1]:
            at -= 1
        self.has_more = at > self.first
        self.conditions = leaf.conditions[:at]
        self.answers = [*leaf.answers[:at - 1], False] if self.has_more else []
        return leaf


def key_of(event):
    """A key for an event of doing, without tuples in it, however deep its value is."""
    if len(event) == 1:
        return event
    return (*event[1:-1], *flat(event[0], event[-1:]))
