"""The names of the modules' tops, and what they mean."""


def given_by_top(statement):
    """The name that a statement of a module's top gives."""
    return statement[3] if statement[0] == "take" else statement[1]


class Tops:
    """The names of the tops of a program's modules, with the numbers and statements that give them.

    With them goes what is known of the program's defs and classes, by the module and number: the
    scopes of defs, and the numbers and statements by the names that they give in classes.
    """

    def __init__(self, rows, functions, classes):
        self.rows = rows
        self.functions = functions
        self.classes = classes

    def has(self, module, name):
        """Whether a name is given in a module's top."""
        return module in self.rows and name in self.rows[module]

    def meant(self, module, name):
        """The module, number and statement that a name means, through takes; None if nothing."""
        passed = {}
        while self.has(module, name) and (module, name) not in passed:
            number, statement = self.rows[module][name]
            if statement[0] != "take":
                return (module, number, statement)
            passed[(module, name)] = True
            module, name = statement[1], statement[2]
        return None

    def means(self, module, name, kind):
        """Whether a name means a statement of a kind, itself or through takes."""
        found = self.meant(module, name)
        return found is not None and found[2][0] == kind
