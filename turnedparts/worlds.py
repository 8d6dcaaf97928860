"""Worlds: what inputs are, what operations mean, and what is true."""

from turnedparts.errors import BadWorld
from turnedparts.meanings import flat_table
from turnedparts.words import is_name, is_text, is_whole


class World:
    """A meaning for all that programs leave open."""

    def __init__(self, inputs, table, truths, stop):
        if not isinstance(inputs, dict) or not all([is_input(name) for name in inputs]):
            raise BadWorld("inputs are a dict with names of inputs")
        if not isinstance(table, dict) or not all([is_row(row) for row in table]):
            raise BadWorld("the table is a dict with pairs of an operation and values")
        if not isinstance(truths, (list, tuple)):
            raise BadWorld("truths are a list or a tuple")
        if not all([is_whole(number) for number in told_numbers(inputs, table, truths)]):
            raise BadWorld("inputs, the table and truths tell integers")
        if stop is not None and not (is_whole(stop) and stop >= 0):
            raise BadWorld("stop is None or a number of items")
        self.inputs = {name: inputs[name] for name in inputs}
        self.table = {row: table[row] for row in table}
        self.truths = list(truths)
        self.stop = stop

    def __eq__(self, other):
        return (isinstance(other, World) and self.inputs == other.inputs
                and flat_table(self.table) == flat_table(other.table)
                and self.truths == other.truths and self.stop == other.stop)


def told_numbers(inputs, table, truths):
    return [*list(inputs.values()), *list(table.values()), *truths]


def is_input(thing):
    """Whether a value is the name of an input, by place or by name."""
    if not isinstance(thing, str):
        return False
    told = thing.removeprefix(".")
    return is_name(told) or is_place(told)


def is_place(told):
    return told != "" and not told.strip("0123456789") and (told == "0" or told[0] != "0")


def is_row(thing):
    """Whether a value is a pair of an operation's name and a tuple of values."""
    if not isinstance(thing, tuple) or len(thing) != 2 or not isinstance(thing[0], str):
        return False
    return is_name(thing[0].removeprefix(".")) and isinstance(thing[1], tuple) and are_values(thing[1])


def are_values(rows):
    """Whether all of some things are values of a world, however deep their tuples are."""
    left = list(rows)
    while left:
        thing = left.pop()
        if not isinstance(thing, tuple) or not thing or not isinstance(thing[0], str):
            return False
        if thing[0] == "tuple":
            if len(thing) != 2 or not isinstance(thing[1], tuple):
                return False
            left.extend(thing[1])
        elif not is_single(thing):
            return False
    return True


def is_single(thing):
    if thing[0] == "none":
        return len(thing) == 1
    if len(thing) != 2:
        return False
    if thing[0] == "text":
        return is_told_text(thing[1])
    return thing[0] == "number" and is_whole(thing[1])


def is_told_text(thing):
    # leave is called with the text of a kind, which may have signs that other texts have not
    return isinstance(thing, str) and is_text(thing.replace("_", " "))
