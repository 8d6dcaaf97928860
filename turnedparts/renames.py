"""New names for variables: which can have them, and which place they catch."""

from turnedparts.bound import Names, params_of
from turnedparts.errors import BadNames, BadProgram, Fixed
from turnedparts.fresh import fresh_names, strings_of
from turnedparts.places import is_path, part_at, with_parts
from turnedparts.programs import is_program
from turnedparts.words import is_name, is_public


class Variables:
    """The variables of a program, with the places that mean them, and those that are fixed."""

    def __init__(self, program):
        self.program = program
        self.names = Names(program)
        self.places = {}
        for key in sorted(self.names.spots):
            variable = self.names.spots[key].variable
            if variable is not None:
                self.places.setdefault(variable, []).append(key)
        self.loose = {part_at(program[module], path): True for module, path in self.names.loose}
        self.fixed = {variable: True for variable in self.places if self.is_fixed(variable)}
        for variable in fixed_params(self.names):
            self.fixed[variable] = True

    def is_fixed(self, variable):
        """Whether a variable is fixed otherwise than as a parameter."""
        if variable[1] != ():
            return variable[2] in self.loose
        giver = self.names.tops.rows[variable[0]][variable[2]][1]
        return is_public(variable[2]) or giver[0] in ("use", "class")

    def can_have(self, variable, name):
        """Whether a variable can have a name."""
        if variable in self.fixed:
            return False
        return not is_public(name) if variable[1] == () else name not in self.loose

    def see_names(self, names):
        """Raise BadNames or Fixed, if a value is not new names for variables."""
        if not isinstance(names, dict):
            raise BadNames("no dict")
        for variable in names:
            if not self.knows(variable) or not is_name(names[variable]):
                raise BadNames("no dict from variables to names")
        for variable in sorted(names):
            if not self.can_have(variable, names[variable]):
                raise Fixed(variable)

    def knows(self, thing):
        """Whether a value is a variable."""
        # True is a number to dicts.
        return thing in self.places and is_path(thing[1])

    def renamed(self, names):
        """The program with new names."""
        rows = {}
        for variable in names:
            for module, path in self.places[variable]:
                rows.setdefault(module, []).append((path, names[variable]))
        return {module: with_parts(self.program[module], rows.get(module, [])) for module in self.program}

    def caught(self, names):
        """The place that new names catch, a pair of a module and a path, or None."""
        try:
            late = Names(self.renamed(names))
        except BadProgram:
            return self.caught_by_no_program(names)
        if late.loose != self.names.loose:
            return (None, ())
        return self.caught_by_another_meaning(late.spots, names)

    def caught_by_no_program(self, names):
        """The first place whose variable without its new name would give a program, or the first one."""
        rows = sorted([(self.places[variable][0], variable) for variable in names])
        for place, variable in rows:
            if is_program(self.renamed({other: names[other] for other in names if other != variable})):
                return place
        return rows[0][0]

    def caught_by_another_meaning(self, late, names):
        """The first place that means another variable, or the same one as an earlier place with another one."""
        early = self.names.spots
        owners = {}
        for key in sorted({**early, **late}):
            before = early[key].variable if key in early else None
            after = late[key].variable if key in late else None
            if after != with_name(before, names) or owners.setdefault(after, before) != before:
                return key
        return None

    def further(self, names):
        """The ascending variables that are not fixed and not asked for."""
        return [variable for variable in sorted(self.places) if variable not in self.fixed and variable not in names]

    def fresh(self, names, many):
        """So many different names that come nowhere, and are not asked for."""
        return fresh_names({**strings_of(self.program), **{name: True for name in names.values()}}, many)


def with_name(variable, names):
    """A variable as it is called with new names."""
    return (*variable[:2], names[variable]) if variable in names else variable


def fixed_params(names):
    """The variables of parameters that can be given by name from outside, or by methods' calls."""
    found = []
    for module in names.tops.rows:
        for name in names.tops.rows[module]:
            found.extend(params_of_top(names, module, name))
    return found


def params_of_top(names, module, name):
    """The fixed parameters of what a name of a top means, if it is public, and of what it gives, if a class."""
    statement = names.tops.rows[module][name][1]
    if statement[0] == "class":
        path = names.givers[(module, (), name)][0][0][:-1]
        return [row for at, inner in enumerate(statement[3]) if inner[0] == "def"
                for row in named_params(module, (*path, 3, at), inner)]
    meant = names.behind_takes((module, (), name)) if is_public(name) else None
    path, giver = names.givers[meant][0] if meant is not None else ((), None)
    return named_params(meant[0], path[:-1], giver) if giver is not None and giver[0] == "def" else []


def named_params(module, path, statement):
    """The variables of the parameters of a def that are of the kinds plain and only."""
    rows = params_of(module, path, statement)
    return [rows[row[0]] for row in statement[2] if row[1] != "front"]
