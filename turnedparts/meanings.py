"""What a world makes of inputs, operations and terms."""


class Told:
    """The meaning that a world tells; the number of a term is what the world tells of it."""

    def __init__(self, world):
        self.inputs = {name: world.inputs[name] for name in world.inputs}
        self.table = flat_table(world.table)
        self.truths = {number: True for number in world.truths}
        self.stop = world.stop

    def reading(self, name):
        """The term of an input."""
        return ("number", self.inputs.get(name, 0))

    def comes_to(self, name, values):
        """The term of an operation with values."""
        return ("number", self.table.get(flat(name, values), 0))

    def holds(self, number):
        """Whether the term with a number is true."""
        return number in self.truths

    def goes_on(self, many):
        """Whether outside goes on behind so many items."""
        return self.stop is None or many < self.stop


def flat_table(table):
    """A table of a world, with keys without tuples in them."""
    return {flat(row[0], row[1]): table[row] for row in table}


def flat(name, values):
    """A key for an operation with values, without tuples in it, however deep the values are."""
    found = [name]
    left = list(reversed(values))
    while left:
        value = left.pop()
        found.append(value[0])
        if value[0] == "tuple":
            found.append(len(value[1]))
            left.extend(list(reversed(value[1])))
        elif len(value) > 1:
            found.append(value[1])
    return tuple(found)
