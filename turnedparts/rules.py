"""What a program must keep beyond the forms of its statements."""

from turnedparts.parts import (
    beyond_of, blocks_of, defaults_of, exprs_of, exprs_within, given_in, numbered, own_names,
    size_of_block, yields,
)
from turnedparts.tops import given_by_top


class Scope:
    """A function's names: its own, and those of the functions around it."""

    def __init__(self, statement, around, is_make):
        params, block = statement[2], statement[3]
        self.around = around
        self.params = [row[0] for row in params]
        self.own = own_names(params, block)
        self.beyond = beyond_of(block)
        self.given = given_in(block)
        # The parameter that only set may touch.
        self.kept = self.params[0] if is_make and params else None

    def owner(self, name):
        """The nearest scope from here on whose own a name is, or None."""
        scope = self
        while scope is not None and name not in scope.own:
            scope = scope.around
        return scope


class Rules:
    """Looks through a module, and collects the numbers of what is not as it must be."""

    def __init__(self, tops, module):
        self.tops = tops
        self.module = module
        self.faults = []

    def look_at_top(self, block):
        """Look at all statements of the module's top."""
        given = {}
        for number, statement in numbered(block, 0):
            name = given_by_top(statement)
            if name is None or name in given or not self.names_what_is_there(statement):
                self.faults.append(number)
            given[name] = True
            if statement[0] == "def":
                self.look_at_outer_def(number, statement, False)
            elif statement[0] == "class":
                self.look_at_class(number, statement)
            elif statement[0] == "let":
                self.look_at_still(number, [statement[2]])

    def names_what_is_there(self, statement):
        if statement[0] == "use":
            return statement[1] in self.tops.rows
        if statement[0] == "take":
            return self.tops.has(statement[1], statement[2])
        return True

    def look_at_class(self, number, statement):
        self.look_at_still(number, list(statement[2]))
        given = {}
        for at, inner in numbered(statement[3], number + 1):
            if inner[0] == "pass":
                continue
            if inner[0] not in ("def", "let") or inner[1] in given or inner[:2] == ("let", "make"):
                self.faults.append(at)
            if inner[0] == "def":
                self.look_at_outer_def(at, inner, inner[1] == "make")
            elif inner[0] == "let":
                self.look_at_still(at, [inner[2]])
            if inner[0] in ("def", "let"):
                given[inner[1]] = True

    def look_at_outer_def(self, number, statement, is_make):
        self.look_at_still(number, defaults_of(statement[2]))
        self.look_at_def(number, statement, None, is_make)

    def look_at_still(self, number, exprs):
        """Look at expressions in which there are no calls and no lambdas."""
        for told in exprs:
            if moves(told):
                self.faults.append(number)
            self.look_at_expr(number, told, None, {})

    def look_at_def(self, number, statement, around, is_make):
        scope = Scope(statement, around, is_make)
        for name in scope.beyond:
            owner = None if around is None else around.owner(name)
            if owner is None or name in scope.params:
                self.faults.append(number)
            elif owner.kept == name and name in scope.given:
                self.faults.append(number)
        if is_make and (yields(statement[3]) or scope.kept in scope.given):
            self.faults.append(number)
        self.look_at_block(statement[3], number + 1, scope)

    def look_at_block(self, block, number, scope):
        """Look at the statements of a function's block, the first of which has a number."""
        for at, statement in numbered(block, number):
            kind = statement[0]
            if kind in ("use", "take", "class"):
                self.faults.append(at)
                continue
            if kind == "set" and (scope.kept is None or statement[1] != ("name", scope.kept)):
                self.faults.append(at)
            for told in exprs_of(statement):
                self.look_at_expr(at, told, scope, {})
            if kind == "def":
                self.look_at_def(at, statement, scope, False)
            else:
                self.look_at_blocks(statement, at, scope)

    def look_at_blocks(self, statement, number, scope):
        at = number + 1
        for block in blocks_of(statement):
            self.look_at_block(block, at, scope)
            at = at + size_of_block(block)

    def look_at_expr(self, number, told, scope, hidden):
        """Look at the names of an expression; hidden are the parameters of lambdas around."""
        kind = told[0]
        if kind == "name":
            self.look_at_name(number, told[1], scope, hidden, False)
        elif kind == "attr" and told[1][0] == "name":
            self.look_at_name(number, told[1][1], scope, hidden, True)
        elif kind == "lambda":
            for default in defaults_of(told[1]):
                self.look_at_expr(number, default, scope, hidden)
            names = {row[0]: True for row in told[1]}
            self.look_at_expr(number, told[2], scope, {**hidden, **names})
        else:
            for part in exprs_within(told):
                self.look_at_expr(number, part, scope, hidden)

    def look_at_name(self, number, name, scope, hidden, is_first):
        if name in hidden or (scope is not None and scope.owner(name) is not None):
            return
        if not self.tops.has(self.module, name):
            self.faults.append(number)
        elif not is_first and self.tops.means(self.module, name, "use"):
            self.faults.append(number)


def moves(told):
    """Whether there is a call or a lambda in an expression."""
    if told[0] in ("call", "lambda"):
        return True
    return any([moves(part) for part in exprs_within(told)])
