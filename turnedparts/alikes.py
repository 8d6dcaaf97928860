"""Programs judged: alike for all uses, inputs and meanings, or told apart by a world."""

from turnedparts.asking import check_use, watch
from turnedparts.codes import Built
from turnedparts.forms import see_not_too_large, uses_of
from turnedparts.judging import Kept, first_unlike, judged, world_of
from turnedparts.machine import Run
from turnedparts.meanings import Told
from turnedparts.programs import checked
from turnedparts.trees import are_same, is_tree_of, tree_of
from turnedparts.ways import key_of
from turnedparts.words import is_whole
from turnedparts.worlds import World


class Alike:
    """That two programs are alike: for each use of both a tree of both."""

    def __init__(self, trees):
        self.trees = {use: trees[use] for use in trees}

    def __eq__(self, other):
        return isinstance(other, Alike) and are_same(self.trees, other.trees)

    def __bool__(self):
        return True

    def shows(self, one, other):
        """Whether the trees are trees of both programs for their uses."""
        builts = [Built(checked(one)), Built(checked(other))]
        found = uses_of(builts)
        if len(self.trees) != len(found) or not all([use in self.trees for use in found]):
            return False
        for use in found:
            if not is_tree_of(builts, use, self.trees[use]):
                return False
        return True


class Unlike:
    """That two programs are unlike: a use, a world, and the first place at which events differ."""

    def __init__(self, use, world, place):
        self.use = use
        self.world = World(world.inputs, world.table, world.truths, world.stop)
        self.place = place

    def __eq__(self, other):
        return (isinstance(other, Unlike) and self.use == other.use and self.world == other.world
                and self.place == other.place)

    def __bool__(self):
        return False

    def shows(self, one, other):
        """Whether the events of the use in the world differ first at the place."""
        builts = [Built(checked(one)), Built(checked(other))]
        if self.use not in uses_of(builts) or not is_whole(self.place):
            return False
        told = Told(self.world)
        keys = [[key_of(event) for event in watch(Run(built, told), self.use)] for built in builts]
        return first_unlike(keys[0], keys[1]) == self.place


def judge(one, other):
    """The evidence that two programs are alike, or that they are not."""
    kept = Kept(checked(one))
    built = Built(checked(other))
    leaves, found = gone_through(kept, built, uses_of([kept.built, built]))
    if found is not None:
        return found
    return Alike({use: tree_of(kept.terms_of(use), leaves[use]) for use in leaves})


def gone_through(kept, built, uses):
    """The ways of uses of two programs by use, and the Unlike that one of them gives, or None."""
    leaves = {}
    for use in uses:
        found = judged(kept, built, use)
        if found.place is not None:
            world = world_of([kept.built, built], use, found.leaves[-1].answers)
            return leaves, Unlike(use, world, found.place)
        leaves[use] = found.leaves
    return leaves, None


def tree(program, use):
    """A tree of a use of a program."""
    kept = Kept(checked(program))
    check_use(use)
    see_not_too_large(kept.built)
    return tree_of(kept.terms_of(use), kept.plain_leaves(use))
