"""The names of the modules' tops, and what they mean."""

from turnedparts.parts import numbered


def given_by_top(statement):
    """The name that a statement of a module's top gives, or None."""
    if statement[0] in ("use", "def", "class", "let"):
        return statement[1]
    if statement[0] == "take":
        return statement[3]
    return None


class Tops:
    """The names of the tops of a program's modules, with the statements that give them."""

    def __init__(self, program):
        self.rows = {module: named_rows(program[module]) for module in program}

    def has(self, module, name):
        """Whether a name is given in a module's top."""
        return module in self.rows and name in self.rows[module]

    def meant(self, module, name):
        """The module, number and statement that a name means, through takes; None if nothing."""
        passed = {}
        while self.has(module, name) and (module, name) not in passed:
            number, statement = self.rows[module][name]
            if statement[0] != "take":
                return (module, number, statement)
            passed[(module, name)] = True
            module, name = statement[1], statement[2]
        return None

    def means(self, module, name, kind):
        """Whether a name means a statement of a kind, itself or through takes."""
        found = self.meant(module, name)
        return found is not None and found[2][0] == kind


def named_rows(block):
    rows = {}
    for number, statement in numbered(block, 0):
        name = given_by_top(statement)
        if name is not None and name not in rows:
            rows[name] = (number, statement)
    return rows
