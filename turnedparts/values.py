"""The values of doing: tuples for what can be seen, objects for the others.

A term is ("number", n); what the number stands for is up to the meaning.
"""

NONE = ("none",)


class Room:
    """The names that a function's call has given, and the room around it."""

    def __init__(self, names, around):
        self.names = names
        self.around = around


class Function:
    """A def or lambda with the room it stands in, and the defaults reckoned so far."""

    def __init__(self, code, room, defaults):
        self.code = code
        self.room = room
        self.defaults = defaults


class Method:
    """A function that is called with an object in front."""

    def __init__(self, thing, function):
        self.thing = thing
        self.function = function


class Family:
    """A class: its module and name, its bases as they are written, its members by name."""

    def __init__(self, module, name, bases, members):
        self.module = module
        self.name = name
        self.bases = bases
        self.members = members

    def key(self):
        """What tells it from other classes of the program."""
        return (self.module, self.name)


class Thing:
    """An object."""

    def __init__(self, family):
        self.family = family
        self.fields = {}


class Walk:
    """A generator: the frame that it goes on in, and how far it has come."""

    def __init__(self, frame):
        self.frame = frame
        self.is_busy = False
        self.is_closing = False
        self.is_done = False


class Space:
    """A module."""

    def __init__(self, module):
        self.module = module


def is_plain(value):
    """Whether a value is a term, a text, none, or a tuple of such."""
    left = [value]
    while left:
        part = left.pop()
        if not isinstance(part, tuple):
            return False
        if part[0] == "tuple":
            left.extend(part[1])
    return True


def can_be_kept(value):
    """Whether a value can be in a field: plain, an object, or a tuple of such."""
    left = [value]
    while left:
        part = left.pop()
        if isinstance(part, Thing):
            continue
        if not isinstance(part, tuple):
            return False
        if part[0] == "tuple":
            left.extend(part[1])
    return True
