"""The errors of the package, one class for each kind of failure."""


class PartsError(ValueError):
    """The class of all errors of the package."""


class BadProgram(PartsError):
    """What is no program; tells the module and the number of the statement, or None."""

    def __init__(self, module, number):
        super().__init__(f"no program: module {module!r}, statement {number!r}")
        self.module = module
        self.number = number


class BadText(PartsError):
    """What is no text of a module; tells the line and the column of what does not fit."""

    def __init__(self, line, column):
        super().__init__(f"does not fit: line {line}, column {column}")
        self.line = line
        self.column = column


class BadUse(PartsError):
    """What is no use."""


class BadWorld(PartsError):
    """What is no world."""


class Ring(PartsError):
    """A def or lambda that is called while it is being done; tells its statement."""

    def __init__(self, module, number):
        super().__init__(f"called while it is being done: module {module}, statement {number}")
        self.module = module
        self.number = number


class TooLarge(PartsError):
    """What has too many parameters, forms or uses to be listed."""


class Handed(PartsError):
    """A value that is not plain and is handed out; tells by what."""

    def __init__(self, kind):
        super().__init__(f"handed out, and not plain: {kind}")
        self.kind = kind
