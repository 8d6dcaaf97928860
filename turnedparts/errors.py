"""The errors of the package, one class for each kind of failure."""


class PartsError(ValueError):
    """The class of all errors of the package."""


class BadProgram(PartsError):
    """What is no program; tells the module and the number of the statement, or None."""

    def __init__(self, module, number):
        super().__init__(f"no program: module {module!r}, statement {number!r}")
        self.module = module
        self.number = number


class BadText(PartsError):
    """What is no text of a module; tells the line and the column of what does not fit."""

    def __init__(self, line, column):
        super().__init__(f"does not fit: line {line}, column {column}")
        self.line = line
        self.column = column


class BadUse(PartsError):
    """What is no use."""


class BadWorld(PartsError):
    """What is no world."""


class Ring(PartsError):
    """A def or lambda that is called while it is being done; tells its statement."""

    def __init__(self, module, number):
        super().__init__(f"called while it is being done: module {module}, statement {number}")
        self.module = module
        self.number = number


class TooLarge(PartsError):
    """What has too many parameters, forms or uses to be listed."""


class Handed(PartsError):
    """A value that is not plain and is handed out; tells by what."""

    def __init__(self, kind):
        super().__init__(f"handed out, and not plain: {kind}")
        self.kind = kind


class NotAlike(PartsError):
    """A change that a strict house refuses; has the Unlike that was found."""

    def __init__(self, found):
        super().__init__("the program would not be alike")
        self.found = found


class NoModule(PartsError):
    """A module that is not there."""

    def __init__(self, module):
        super().__init__(f"no module: {module!r}")
        self.module = module


class BadNames(PartsError):
    """What is no dict from variables of a program to names."""


class Fixed(PartsError):
    """A variable that cannot have a new name, or not this one."""

    def __init__(self, variable):
        super().__init__(f"cannot have this name: {variable!r}")
        self.variable = variable


class Caught(PartsError):
    """New names that catch a place; tells the module and the path, or None and the empty path."""

    def __init__(self, module, path):
        super().__init__(f"caught: module {module!r}, place {path!r}")
        self.module = module
        self.path = path


class BadPlace(PartsError):
    """What is not the place of what a change is to be made of."""


class NotPlain(PartsError):
    """A change that does not go; tells why, by a word."""

    def __init__(self, why):
        super().__init__(f"does not go: {why}")
        self.why = why


class BadPlan(PartsError):
    """What is no plan for the parameters of a function."""


class Gone(PartsError):
    """What a step follows, and that is not there behind it."""
