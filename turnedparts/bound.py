"""Names as they stand in a program, and the variables that they mean.

A variable is a triple of a module, the place of a scope, and a name. The place of a name goes
with its module, as a pair.
"""

from turnedparts.parts import own_names
from turnedparts.places import part_at
from turnedparts.programs import checked
from turnedparts.tops import given_by_top


class Home:
    """A scope: its place, the names that are its own, and the scope around."""

    def __init__(self, place, own, around):
        self.place = place
        self.own = own
        self.around = around

    def owner(self, name):
        """The nearest scope from here on whose own a name is."""
        home = self
        while name not in home.own:
            home = home.around
        return home


class Spot:
    """A name as it stands: its scope's place, the variable that it means, or None, and its role.

    The role is "use", "give", "nonlocal", "take" for what is taken, "attr", or "named" at a call.
    """

    def __init__(self, place, variable, role):
        self.place = place
        self.variable = variable
        self.role = role


class Names:
    """All names of a program that mean variables, and the places of those at calls that are loose.

    BadProgram: it is none.
    """

    def __init__(self, program):
        self.program = program
        self.tops = checked(program)
        self.module = ""
        self.spots = {}
        # What gives a variable: pairs of a path and a statement, or of a path and None for a parameter.
        self.givers = {}
        # The calls that have names: the module and path, the tuple, and the place of the scope.
        self.calls = []
        self.loose = {}
        for module in program:
            self.bind_module(module, program[module])
        for row in self.calls:
            self.bind_named(row)

    def places_of(self, variable):
        """The ascending places of the names that mean a variable."""
        return sorted([key for key in self.spots if self.spots[key].variable == variable])

    def is_let(self, module, path):
        """Whether a let stands at a path."""
        return part_at(self.program[module], path)[0] == "let"

    def bind_module(self, module, block):
        """Bind all names of a module, but for those at calls."""
        self.module = module
        home = Home((), self.tops.rows[module], None)
        for at, statement in enumerate(block):
            self.bind_statement(statement, (at,), home)

    def mean(self, path, name, home, role):
        """Keep that a name means a variable of a scope or those around; the variable."""
        variable = (self.module, home.owner(name).place, name)
        self.put_spot(path, Spot(home.place, variable, role))
        return variable

    def put_spot(self, path, spot):
        """Keep what a name at a path of the module means."""
        self.spots[(self.module, path)] = spot

    def give(self, path, name, home, giver):
        """Keep that a name is given what a statement gives, or what a parameter gets."""
        variable = self.mean(path, name, home, "give")
        self.givers.setdefault(variable, []).append((path, giver))

    def bind_statement(self, statement, path, home):
        """Bind the names of a statement and of those in it."""
        kind = statement[0]
        if kind == "if":
            self.bind_expr(statement[1], (*path, 1), home)
            self.bind_block(statement[2], (*path, 2), home)
            self.bind_block(statement[3], (*path, 3), home)
        elif kind == "try":
            self.bind_try(statement, path, home)
        elif kind in ("def", "class", "for", "each", "with"):
            bind_kind = WITH_BLOCK[kind]
            bind_kind(self, statement, path, home)
        elif kind == "take":
            self.put_spot((*path, 2), Spot((), (statement[1], (), statement[2]), "take"))
            self.give((*path, 3), statement[3], home, statement)
        elif kind in ("use", "let"):
            self.give((*path, 1), statement[1], home, statement)
        elif kind == "unpack":
            for at, name in enumerate(statement[1]):
                self.give((*path, 1, at), name, home, statement)
        elif kind == "nonlocal":
            for at, name in enumerate(statement[1]):
                self.mean((*path, 1, at), name, home, "nonlocal")
        for at in EXPRS_AT.get(kind, ()):
            if statement[at] is not None:
                self.bind_expr(statement[at], (*path, at), home)

    def bind_block(self, block, path, home):
        for at, statement in enumerate(block):
            self.bind_statement(statement, (*path, at), home)

    def bind_try(self, statement, path, home):
        self.bind_block(statement[1], (*path, 1), home)
        for at, row in enumerate(statement[2]):
            if row[1] is not None:
                self.give((*path, 2, at, 1), row[1], home, statement)
            self.bind_block(row[2], (*path, 2, at, 2), home)
        self.bind_block(statement[3], (*path, 3), home)

    def bind_exprs(self, exprs, path, home):
        for at, told in enumerate(exprs):
            self.bind_expr(told, (*path, at), home)

    def bind_params(self, params, path, outer, home):
        """Bind the names of parameters, and at their defaults, which stand in the scope around."""
        for at, row in enumerate(params):
            self.give((*path, at, 0), row[0], home, None)
            if row[2] is not None:
                self.bind_expr(row[2], (*path, at, 2), outer)

    def bind_expr(self, told, path, home):
        """Bind the names of an expression."""
        kind = told[0]
        if kind == "name":
            self.mean((*path, 1), told[1], home, "use")
        elif kind == "attr":
            self.bind_expr(told[1], (*path, 1), home)
            self.bind_attribute(told, path, home)
        elif kind in ("op", "call"):
            if kind == "call":
                self.bind_expr(told[1], (*path, 1), home)
                self.bind_call(told, path, home)
            self.bind_exprs(told[2], (*path, 2), home)
        elif kind == "tuple":
            self.bind_exprs(told[1], (*path, 1), home)
        elif kind == "choice":
            for at in (1, 2, 3):
                self.bind_expr(told[at], (*path, at), home)
        elif kind == "lambda":
            inner = Home(path, {row[0]: True for row in told[1]}, home)
            self.bind_params(told[1], (*path, 1), home, inner)
            self.bind_expr(told[2], (*path, 2), inner)

    def bind_call(self, told, path, home):
        """Bind the named arguments; what their names mean is known when all else is."""
        if told[3]:
            self.calls.append((self.module, path, told, home.place))
        for at, pair in enumerate(told[3]):
            self.bind_expr(pair[1], (*path, 3, at, 1), home)

    def bind_attribute(self, told, path, home):
        """Bind the attribute of a name that means a use."""
        if told[1][0] != "name":
            return
        first = (*path, 1, 1)
        module = self.used(self.spots[(self.module, first)].variable)
        if module is not None:
            variable = (module, (), told[2]) if self.tops.has(module, told[2]) else None
            self.put_spot((*path, 2), Spot(home.place, variable, "attr"))

    def used(self, variable):
        """The module of the use that a variable means, itself or through takes, or None."""
        if variable[1] != ():
            return None
        found = self.tops.meant(variable[0], variable[2])
        return found[2][1] if found is not None and found[2][0] == "use" else None

    def bind_named(self, row):
        """Bind the names at a call."""
        module, path, told, place = row
        params = self.called_params(self.called(module, path, told[1]))
        for at, pair in enumerate(told[3]):
            key = (module, (*path, 3, at, 0))
            if pair[0] in params:
                self.spots[key] = Spot(place, params[pair[0]], "named")
            else:
                self.loose[key] = True

    def called(self, module, path, told):
        """The variable that what is called means, or None."""
        if told[0] not in ("name", "attr"):
            return None
        spot = self.spots.get((module, (*path, 1, 1 if told[0] == "name" else 2)))
        return None if spot is None else self.behind_takes(spot.variable)

    def behind_takes(self, variable):
        """What a variable means through takes, itself if it is none of a take, None if there is no such."""
        if variable is None or variable[1] != ():
            return variable
        found = self.tops.meant(variable[0], variable[2])
        return None if found is None else (found[0], (), given_by_top(found[2]))

    def called_params(self, variable):
        """The variables, by name, of the parameters of what a variable is given by alone."""
        rows = self.givers.get(variable, [])
        if len(rows) != 1 or rows[0][1] is None:
            return {}
        path, statement = rows[0][0][:-1], rows[0][1]
        if statement[0] == "class":
            for at, inner in enumerate(statement[3]):
                if inner[:2] == ("def", "make"):
                    return params_of(variable[0], (*path, 3, at), inner)
        return params_of(variable[0], path, statement) if statement[0] == "def" else {}


def params_of(module, path, statement):
    """The variables of the parameters of a def, by name."""
    return {row[0]: (module, path, row[0]) for row in statement[2]}


def bind_def(names, statement, path, home):
    """Bind a def of a top or a function."""
    names.give((*path, 1), statement[1], home, statement)
    bind_function(names, statement, path, home)


def bind_function(names, statement, path, home):
    inner = Home(path, own_names(statement[2], statement[3]), home)
    names.bind_params(statement[2], (*path, 2), home, inner)
    names.bind_block(statement[3], (*path, 3), inner)


def bind_class(names, statement, path, home):
    """Bind a class, whose block is no scope, and whose defs and lets are no variables."""
    names.give((*path, 1), statement[1], home, statement)
    names.bind_exprs(statement[2], (*path, 2), home)
    for at, inner in enumerate(statement[3]):
        if inner[0] == "def":
            bind_function(names, inner, (*path, 3, at), home)
        elif inner[0] == "let":
            names.bind_expr(inner[2], (*path, 3, at, 2), home)


def bind_for(names, statement, path, home):
    names.give((*path, 1), statement[1], home, statement)
    names.bind_exprs(statement[2], (*path, 2), home)
    names.bind_block(statement[3], (*path, 3), home)


def bind_each(names, statement, path, home):
    names.give((*path, 1), statement[1], home, statement)
    names.bind_expr(statement[2], (*path, 2), home)
    names.bind_block(statement[3], (*path, 3), home)


def bind_with(names, statement, path, home):
    names.bind_expr(statement[1], (*path, 1), home)
    if statement[2] is not None:
        names.give((*path, 2), statement[2], home, statement)
    names.bind_block(statement[3], (*path, 3), home)


WITH_BLOCK = {
    "def": bind_def,
    "class": bind_class,
    "for": bind_for,
    "each": bind_each,
    "with": bind_with,
}
# Where in statements without blocks expressions stand.
EXPRS_AT = {
    "let": (2,), "unpack": (2,), "set": (1, 3), "return": (1,), "yield": (1,), "raise": (2,), "see": (1,), "do": (1,),
}
