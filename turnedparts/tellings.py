"""What is so for uses with all inputs, meanings, truths, and ways of outside."""

from turnedparts.asking import check_use
from turnedparts.forms import see_not_too_large, uses_of
from turnedparts.judging import Kept
from turnedparts.parts import numbered, size_of
from turnedparts.programs import checked
from turnedparts.terms import has_number


def kinds_raised(program, use):
    """The ascending list of the kinds that can be raised."""
    leaves = gone_through(program, use).plain_leaves(use)
    return sorted(set([event[1] for leaf in leaves for event in leaf.events if event[0] == "raise"]))


def is_silent(program, use):
    """Whether nothing but one event is seen."""
    leaves = gone_through(program, use).plain_leaves(use)
    return all([len(leaf.events) == 1 for leaf in leaves])


def hangs_on(program, use):
    """The list of the names of the inputs that what is seen hangs on."""
    kept = gone_through(program, use)
    leaves = kept.plain_leaves(use)
    return [name for name in inputs_of(use) if is_felt(leaves, kept.terms_of(use).numbers_with(name))]


def never_done(program):
    """The ascending list of the modules and numbers of the statements in functions that are never done."""
    kept = Kept(checked(program))
    kept.built.trace()
    for use in uses_of([kept.built]):
        kept.plain_leaves(use)
    return [row for row in in_functions(program) if row not in kept.built.marked]


def gone_through(program, use):
    """A program whose use can be gone through."""
    kept = Kept(checked(program))
    check_use(use)
    see_not_too_large(kept.built)
    return kept


def inputs_of(use):
    """The names of the inputs of a use, those of the making first."""
    if use[0] == "read":
        return []
    found = names_of("", use[3], use[4])
    return found + names_of(".", use[6], use[7]) if use[0] == "method" else found


def names_of(front, many, names):
    return [f"{front}{at}" for at in range(many)] + [front + name for name in names]


def is_felt(leaves, numbers):
    """Whether other events can be seen, if the input that terms with some numbers have is another."""
    rows = []
    for leaf in leaves:
        if any([has_term(event, numbers) for event in leaf.events]):
            return True
        rows.append((choices_without(leaf, numbers), leaf.flats))
    for at, (choices, keys) in enumerate(rows):
        for others, other_keys in rows[:at]:
            if keys != other_keys and go_together(choices, others):
                return True
    return False


def has_term(event, numbers):
    return len(event) > 1 and has_number(event[-1:], numbers)


def choices_without(leaf, numbers):
    """What is chosen on a way for the conditions that are no terms with some numbers."""
    found = {}
    for condition, answer in zip(leaf.conditions, leaf.answers):
        if condition[0] == "go" or condition[1] not in numbers:
            found[condition] = answer
    return found


def go_together(choices, others):
    """Whether what is chosen for conditions that stand in both is the same."""
    return all([others.get(condition, answer) == answer for condition, answer in choices.items()])


def in_functions(program):
    """The ascending list of the modules and numbers of the statements in functions."""
    found = []
    for module in sorted(program):
        for number, statement in numbered(program[module], 0):
            rows = numbered(statement[3], number + 1) if statement[0] == "class" else [(number, statement)]
            for at, inner in rows:
                if inner[0] == "def":
                    found.extend([(module, place) for place in range(at + 1, at + size_of(inner))])
    return found
