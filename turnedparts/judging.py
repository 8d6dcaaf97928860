"""Uses of one program, and of two, gone through way by way."""

from turnedparts.asking import watch
from turnedparts.codes import Built
from turnedparts.errors import TooLarge
from turnedparts.machine import Run
from turnedparts.terms import Terms
from turnedparts.ways import Choices, Ways
from turnedparts.worlds import World

MOST_LEAVES = 400


class Kept:
    """A program, told by its tops, with the ways of its uses, as far as they were gone through."""

    def __init__(self, tops):
        self.built = Built(tops)
        self.ways = {}
        self.leaves = {}

    def begin(self, use):
        """Make ready to go through a use."""
        if use not in self.ways:
            self.ways[use] = Ways(self.built, use, Terms(), [], [])
            self.leaves[use] = []

    def terms_of(self, use):
        """The terms that a use has come to."""
        self.begin(use)
        return self.ways[use].terms

    def leaf(self, use, at):
        """The way of a use with a number, or None behind the last one."""
        self.begin(use)
        leaves = self.leaves[use]
        while at == len(leaves) and self.ways[use].has_more:
            leaves.append(self.ways[use].leaf())
        return leaves[at] if at < len(leaves) else None

    def plain_leaves(self, use):
        """All ways of a use, in the order of the plain tree."""
        found = []
        leaf = self.leaf(use, 0)
        while leaf is not None:
            see_not_too_many_leaves(found)
            found.append(leaf)
            leaf = self.leaf(use, len(found))
        return found


class Judged:
    """A use of two programs: their ways up to the first one that tells them apart, and where."""

    def __init__(self, leaves, place):
        self.leaves = leaves
        self.place = place


def see_not_too_many_leaves(leaves):
    """Raise TooLarge, if no further leaf can stand behind some."""
    if len(leaves) == MOST_LEAVES:
        raise TooLarge("a tree has too many leaves")


def judged(kept, built, use):
    """Go through the ways of a use of two programs, until they see unlike things."""
    leaves = []
    first = kept.leaf(use, 0)
    many = 0
    while first is not None:
        many += 1
        ways = Ways(built, use, kept.terms_of(use), first.conditions, first.answers)
        while ways.has_more:
            leaf = ways.leaf()
            see_not_too_many_leaves(leaves)
            leaves.append(leaf)
            place = first_unlike(first.flats, leaf.flats)
            if place is not None:
                return Judged(leaves, place)
        first = kept.leaf(use, many)
    return Judged(leaves, None)


def world_of(builts, use, answers):
    """A world in which some programs go a way of a use, and no two terms are the same number."""
    terms = Terms()
    choices = Choices(terms, [], answers)
    for built in builts:
        watch(Run(built, choices), use)
    table = {(row[1], row[2]): number for number, row in enumerate(terms.rows, 1) if row[0] == "op"}
    truths = [told for word, told in choices.conditions if word == "if" and choices.chosen[(word, told)]]
    stops = [told for word, told in choices.conditions if word == "go" and not choices.chosen[(word, told)]]
    return World(terms.inputs, table, sorted(truths), min(stops, default=None))


def first_unlike(ones, others):
    """The first place at which two lists differ, or None."""
    for at, (one, other) in enumerate(zip(ones, others)):
        if one != other:
            return at
    return None if len(ones) == len(others) else min(len(ones), len(others))
