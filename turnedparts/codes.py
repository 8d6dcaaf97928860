"""What a program is done by: the codes of its defs, lambdas and lets, and its classes."""

from turnedparts.values import Family, Function, Space


class Code:
    """What is done when a def or lambda is called, or a let reckoned.

    The rows are worked out when they are first needed.
    """

    def __init__(self, mark, module, number, kind):
        self.mark = mark
        self.module = module
        self.number = number
        self.kind = kind
        self.params = ()
        self.body = ()
        self.scopes = ()
        self.is_walk = False
        self.rows = None


class Built:
    """A program, told by its tops, with all that doing it needs."""

    def __init__(self, tops):
        self.tops = tops
        self.marks = 0
        self.tops_rows = {}
        self.families = {}
        self.found = {}
        # The statements in functions that are done, by module and number, if they are traced.
        self.is_traced = False
        self.marked = {}

    def trace(self):
        """Keep, from here on, which statements in functions are done."""
        self.is_traced = True

    def new_code(self, module, number, kind):
        """A new code, for a statement with a number in a module."""
        self.marks += 1
        return Code(self.marks, module, number, kind)

    def def_code(self, module, number, statement, kind, scopes):
        """The code of a def in scopes, dicts of the own names of the functions around."""
        code = self.new_code(module, number, kind)
        code.params, code.body = statement[2], statement[3]
        known = self.tops.functions[(module, number)]
        code.scopes = (known.own, *scopes)
        code.is_walk = known.is_walk
        return code

    def let_code(self, module, number, statement):
        """The code of a let of a top or a class."""
        code = self.new_code(module, number, "let")
        code.body = statement[2]
        return code

    def top_row(self, module, name):
        """What is done for a name of a top: a constant, a let, or what is wrong."""
        if (module, name) not in self.tops_rows:
            self.tops_rows[(module, name)] = self.new_top_row(module, name)
        return self.tops_rows[(module, name)]

    def new_top_row(self, module, name):
        found = self.tops.meant(module, name)
        if found is None:
            return ("wrong",)
        home, number, statement = found
        if statement[0] == "use":
            return ("const", Space(statement[1]))
        if statement[0] == "class":
            return ("const", self.family_of(home, number, statement))
        # One code for each statement, by whatever name: it is what rings are told by.
        if (home, statement[1]) != (module, name):
            return self.top_row(home, statement[1])
        if statement[0] == "let":
            return ("let", self.let_code(home, number, statement))
        return ("const", Function(self.def_code(home, number, statement, "top", ()), None, {}))

    def family_of(self, module, number, statement):
        """The class that a statement is."""
        key = (module, statement[1])
        if key not in self.families:
            self.families[key] = self.new_family(module, number, statement)
        return self.families[key]

    def new_family(self, module, number, statement):
        members = {}
        for name, (at, inner) in self.tops.classes[(module, number)].items():
            if inner[0] == "def":
                function = Function(self.def_code(module, at, inner, "top", ()), None, {})
                members[name] = ("def", function)
            else:
                members[name] = ("let", self.let_code(module, at, inner))
        return Family(module, statement[1], list(statement[2]), members)

    def base(self, family, at):
        """The class that a base is, or None."""
        told = family.bases[at]
        module, name = family.module, told[1]
        if told[0] == "attr":
            found = self.tops.meant(module, told[1][1])
            if found is None or found[2][0] != "use":
                return None
            module, name = found[2][1], told[2]
        found = self.tops.meant(module, name)
        if found is None or found[2][0] != "class":
            return None
        return self.family_of(found[0], found[1], found[2])

    def member(self, family, name):
        """What a class has for a name: a pair of def, let, none or wrong, and its function or code."""
        key = (family.module, family.name, name)
        if key not in self.found:
            self.found[key] = self.new_member(family, name)
        return self.found[key]

    def new_member(self, family, name):
        if name in family.members:
            return family.members[name]
        # Classes through which the way from the first one goes, each with its next base.
        way = [[family, 0]]
        on_way = {family.key(): True}
        passed = {}
        while way:
            last, at = way[-1]
            if at == len(last.bases):
                way.pop()
                del on_way[last.key()]
                passed[last.key()] = True
                continue
            way[-1][1] = at + 1
            base = self.base(last, at)
            if base is None or base.key() in on_way:
                return ("wrong", None)
            if base.key() in passed:
                continue
            if name in base.members:
                return base.members[name]
            way.append([base, 0])
            on_way[base.key()] = True
        return ("none", None)
