"""Trees: made of the ways of a use, and looked at whether they are a use's."""

from turnedparts.asking import watch
from turnedparts.machine import Run
from turnedparts.terms import Terms, parts_of
from turnedparts.ways import Bound, Unasked

BRANCHES = ("if", "go")
TERMS = ("input", "op")
VALUES = ("input", "op", "none", "text", "tuple")


def tree_of(terms, leaves):
    """The tree of a use whose ways are told, in order."""
    # The trees of yes whose trees of no are not there yet, the outer ones first.
    waiting = []
    for leaf in leaves:
        tree = ("leaf", terms.outward_events(leaf.events))
        at = len(leaf.conditions)
        while at > 0 and not leaf.answers[at - 1]:
            at -= 1
            tree = branch_of(terms, leaf.conditions[at], waiting.pop(), tree)
        waiting.append(tree)
    return waiting.pop()


def branch_of(terms, condition, yes, no):
    if condition[0] == "if":
        return ("if", terms.term(condition[1]), yes, no)
    return ("go", condition, yes, no)


def is_tree_of(builts, use, told):
    """Whether a tree is one of a use of some programs."""
    terms = Terms()
    left = [(told, [], [])]
    while left:
        tree, conditions, answers = left.pop()
        if tree[0] in BRANCHES:
            condition = condition_of(terms, tree)
            if condition is None or condition in conditions:
                return False
            for answer, branch in ((False, tree[3]), (True, tree[2])):
                left.append((branch, [*conditions, condition], [*answers, answer]))
        elif not is_leaf_of(builts, use, tree, Bound(terms, conditions, answers)):
            return False
    return True


def condition_of(terms, tree):
    """The condition that stands in a tree, or None, if what stands there is none."""
    told = tree[1]
    if tree[0] == "go":
        return told if told[0] == "go" else None
    if told[0] not in TERMS or not all([part[0] in VALUES for part in parts_of(told)]):
        return None
    return ("if", terms.inward(told)[1])


def is_leaf_of(builts, use, tree, choices):
    """Whether all of some programs see the events of a leaf, and ask for nothing more."""
    for built in builts:
        try:
            events = watch(Run(built, choices), use)
        except Unasked:
            return False
        if not are_same(choices.terms.outward_events(events), tree[1]):
            return False
    return True


def are_same(one, other):
    """Whether two trees, or dicts of trees, are equal, however deep their tuples are."""
    left = [(one, other)]
    while left:
        first, second = left.pop()
        if isinstance(first, dict) and isinstance(second, dict):
            if len(first) != len(second) or not all([key in second for key in first]):
                return False
            left.extend([(first[key], second[key]) for key in first])
        elif isinstance(first, tuple) and isinstance(second, tuple):
            if len(first) != len(second):
                return False
            left.extend(list(zip(first, second)))
        elif first != second:
            return False
    return True
