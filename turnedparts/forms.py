"""The forms in which defs can be called, and the uses that programs have by them."""

from turnedparts.errors import TooLarge
from turnedparts.words import is_public

MOST_PARAMS = 8
MOST_FORMS = 60
MOST_METHOD_USES = 240


def forms_of(params):
    """The pairs of a number and names that parameters take."""
    places = [row for row in params if row[1] != "only"]
    found = []
    for many in range(len(places) + 1):
        left = places[many:]
        if all([row[1] == "plain" or row[2] is not None for row in left]):
            named = [row for row in left if row[1] == "plain"] + [row for row in params if row[1] == "only"]
            found.extend([(many, names) for names in choices_of(named)])
    return found


def choices_of(params):
    """The ascending tuples of names by which all parameters without a default are given."""
    found = [()]
    for row in sorted(params, key=lambda param: param[0]):
        longer = [(*names, row[0]) for names in found]
        found = longer if row[2] is None else found + longer
    return found


def see_not_too_long(params):
    if len(params) > MOST_PARAMS:
        raise TooLarge("a def has too many parameters")


def uses_of(builts, names=None):
    """The ascending list of the uses of some programs, or of those of some names of tops alone."""
    found = {}
    for built in builts:
        for module, name in public_names(built):
            if names is None or (module, name) in names:
                for use in uses_of_name(built, module, name):
                    found[use] = True
    uses = sorted(found)
    see_not_too_many([use[:3] for use in uses if use[0] == "call"], MOST_FORMS)
    see_not_too_many([use[:3] for use in uses if use[0] == "method"], MOST_METHOD_USES)
    return uses


def public_names(built):
    """The pairs of a public module and a public name of its top, ascending."""
    found = []
    for module in sorted(built.tops.rows):
        if is_public(module):
            names = sorted(built.tops.rows[module])
            found.extend([(module, name) for name in names if is_public(name)])
    return found


def see_not_too_many(heads, most):
    """Raise TooLarge, if one of some keys stands there too often."""
    counts = {}
    for head in heads:
        counts[head] = counts.get(head, 0) + 1
        if counts[head] > most:
            raise TooLarge("a name has too many uses")


def uses_of_name(built, module, name):
    found = [("read", module, name)]
    meant = built.tops.meant(module, name)
    if meant is None:
        return found
    home, number, statement = meant
    if statement[0] == "def":
        see_not_too_long(statement[2])
        found.extend([("call", module, name, many, names) for many, names in forms_of(statement[2])])
    if statement[0] == "class":
        family = built.family_of(home, number, statement)
        found.extend([("method", module, name, *row) for row in method_rows(built, family)])
    return found


def method_rows(built, family):
    """How the methods of a class are used: a form of make, a name, and a form of its def."""
    making = forms_of_member(built, family, "make")
    if built.member(family, "make")[0] != "def":
        making = [(0, ())]
    found = []
    for name in member_names(built, family):
        if is_public(name) and name != "make":
            for more, others in forms_of_member(built, family, name):
                found.extend([(many, names, name, more, others) for many, names in making])
        # Raised here already, as there could be millions.
        if len(found) > MOST_METHOD_USES:
            raise TooLarge("the methods of a class have too many uses")
    return found


def forms_of_member(built, family, name):
    """The forms of the def that a class has for a name, its first parameter left aside."""
    kind, function = built.member(family, name)
    if kind != "def":
        return []
    see_not_too_long(function.code.params)
    return forms_of(function.code.params[1:])


def member_names(built, family):
    """The names of the members of a class and its bases."""
    found = {}
    left = [family]
    passed = {family.key(): True}
    while left:
        last = left.pop()
        for name in last.members:
            found[name] = True
        for at in range(len(last.bases)):
            base = built.base(last, at)
            if base is not None and base.key() not in passed:
                passed[base.key()] = True
                left.append(base)
    return sorted(found)
