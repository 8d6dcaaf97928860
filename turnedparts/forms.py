"""The forms in which defs can be called, and the uses that programs have by them."""

from turnedparts.errors import TooLarge

MOST_PARAMS = 8
MOST_FORMS = 60
MOST_METHOD_USES = 240
# So many parameters have no more than 31 forms.
FEW_PARAMS = 4


def forms_of(params):
    """The pairs of a number and names that parameters take."""
    return [(many, names) for many, named in named_behind_places(params) for names in choices_of(named)]


def many_forms_of(params):
    """How many forms parameters take."""
    return sum([1 << len([row for row in named if row[2] is not None]) for _, named in named_behind_places(params)])


def named_behind_places(params):
    """The pairs of a number of arguments by place and the parameters that can be given by name then."""
    places = [row for row in params if row[1] != "only"]
    others = [row for row in params if row[1] == "only"]
    found = []
    for many in range(len(places) + 1):
        left = places[many:]
        if all([row[1] == "plain" or row[2] is not None for row in left]):
            found.append((many, [row for row in left if row[1] == "plain"] + others))
    return found


def choices_of(params):
    """The ascending tuples of names by which all parameters without a default are given."""
    found = [()]
    for row in sorted(params, key=lambda param: param[0]):
        longer = [(*names, row[0]) for names in found]
        found = longer if row[2] is None else found + longer
    return found


def see_not_too_long(params):
    if len(params) > MOST_PARAMS:
        raise TooLarge("a def has too many parameters")


def uses_of(builts, names=None):
    """The ascending list of the uses of some programs, or of those of some names of tops alone."""
    found = {}
    for built in builts:
        for module, name in public_names(built):
            if names is None or (module, name) in names:
                for use in uses_of_name(built, module, name):
                    found[use] = True
    uses = sorted(found)
    see_not_too_many([use[:3] for use in uses if use[0] == "call"], MOST_FORMS)
    see_not_too_many([use[:3] for use in uses if use[0] == "method"], MOST_METHOD_USES)
    return uses


def see_not_too_large(built):
    """Raise TooLarge, if the uses of a program cannot be listed."""
    for module, name in public_names(built):
        meant = built.tops.meant(module, name)
        if meant is not None and meant[2][0] == "def":
            see_not_too_long(meant[2][2])
            if len(meant[2][2]) > FEW_PARAMS and many_forms_of(meant[2][2]) > MOST_FORMS:
                raise TooLarge("a name has too many uses")
        elif meant is not None and meant[2][0] == "class":
            see_methods_not_too_many(built, built.family_of(meant[0], meant[1], meant[2]))


def see_methods_not_too_many(built, family):
    making = params_of_member(built, family, "make")
    found = [params_of_member(built, family, name) for name in public_members(built, family)]
    many = sum([many_forms_of(params) for params in found if params is not None])
    if making is not None:
        many = many * many_forms_of(making)
    if many > MOST_METHOD_USES:
        raise TooLarge("the methods of a class have too many uses")


def public_names(built):
    """The pairs of a public module and a public name of its top, ascending."""
    found = []
    for module in sorted(built.tops.rows):
        if not module.startswith("_"):
            names = sorted(built.tops.rows[module])
            found.extend([(module, name) for name in names if not name.startswith("_")])
    return found


def see_not_too_many(heads, most):
    """Raise TooLarge, if one of some keys stands there too often."""
    counts = {}
    for head in heads:
        counts[head] = counts.get(head, 0) + 1
        if counts[head] > most:
            raise TooLarge("a name has too many uses")


def uses_of_name(built, module, name):
    found = [("read", module, name)]
    meant = built.tops.meant(module, name)
    if meant is None:
        return found
    home, number, statement = meant
    if statement[0] == "def":
        see_not_too_long(statement[2])
        found.extend([("call", module, name, many, names) for many, names in forms_of(statement[2])])
    if statement[0] == "class":
        family = built.family_of(home, number, statement)
        found.extend([("method", module, name, *row) for row in method_rows(built, family)])
    return found


def method_rows(built, family):
    """How the methods of a class are used: a form of make, a name, and a form of its def."""
    params = params_of_member(built, family, "make")
    making = [(0, ())] if params is None else forms_of(params)
    found = []
    for name in public_members(built, family):
        params = params_of_member(built, family, name)
        for more, others in [] if params is None else forms_of(params):
            found.extend([(many, names, name, more, others) for many, names in making])
        # Raised here already, as there could be millions.
        if len(found) > MOST_METHOD_USES:
            raise TooLarge("the methods of a class have too many uses")
    return found


def params_of_member(built, family, name):
    """The parameters, but for the first one, of the def that a class has for a name; None without a def."""
    kind, function = built.member(family, name)
    if kind != "def":
        return None
    see_not_too_long(function.code.params)
    return function.code.params[1:]


def public_members(built, family):
    """The public names of the members of a class and its bases, but for make, ascending."""
    return [name for name in member_names(built, family) if name != "make" and not name.startswith("_")]


def member_names(built, family):
    """The names of the members of a class and its bases."""
    found = {}
    left = [family]
    passed = {family.key(): True}
    while left:
        last = left.pop()
        for name in last.members:
            found[name] = True
        for at in range(len(last.bases)):
            base = built.base(last, at)
            if base is not None and base.key() not in passed:
                passed[base.key()] = True
                left.append(base)
    return sorted(found)
