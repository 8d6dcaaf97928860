"""Which names of tops can hang on which statements."""

from turnedparts.parts import exprs_of, exprs_within
from turnedparts.taking import in_order


class Reach:
    """The names of a program's tops, as pairs of a module and a name, with what names them."""

    def __init__(self, tops):
        self.tops = tops
        self.users = {}
        for module in self.tops.rows:
            for name in self.tops.rows[module]:
                for key in self.named_by(module, self.tops.rows[module][name][1]):
                    self.users.setdefault(key, []).append((module, name))

    def named_by(self, module, statement):
        """The names of tops that the statement of a top can come to itself, and perhaps more."""
        if statement[0] == "use":
            return [(statement[1], name) for name in self.tops.rows[statement[1]]]
        if statement[0] == "take":
            return [(statement[1], statement[2])]
        names = {}
        for inner in in_order([statement]):
            for told in exprs_of(inner):
                put_names(told, names)
        return [(module, name) for name in names if self.tops.has(module, name)]

    def hanging_on(self, module, number):
        """A dict whose keys are all names that can come to the statement of a top with one in it."""
        rows = self.tops.rows[module]
        last = max([row[0] for row in rows.values() if row[0] <= number])
        left = [(module, name) for name in rows if rows[name][0] == last]
        found = {left[0]: True}
        while left:
            for key in self.users.get(left.pop(), []):
                if key not in found:
                    found[key] = True
                    left.append(key)
        return found


def put_names(told, names):
    """Put the names that stand in an expression into a dict."""
    if told[0] == "name":
        names[told[1]] = True
    for part in exprs_within(told):
        put_names(part, names)
