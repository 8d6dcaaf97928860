"""Functions, and tops, as scopes: the names that they give and use."""


class Scope:
    """A function, or a top: its parameters, the names that it gives, and those that are used in it."""

    def __init__(self, number, around, params, kept):
        self.number = number
        self.around = around
        self.params = params
        # The parameter that only set may touch, in a make.
        self.kept = kept
        self.given = []
        self.beyond = []
        self.own = {}
        self.is_walk = False
        # The numbers of the statements where names are used first: as the first part of an
        # attribute, and otherwise.
        self.firsts = {}
        self.alone = {}

    def settle(self):
        """Work out which names are the function's own."""
        self.own = {**self.params}
        for name in self.given:
            self.own[name] = True
        for name in self.beyond:
            self.own.pop(name, None)

    def owner(self, name):
        """The nearest scope from here on whose own a name is, or None."""
        scope = self
        while scope is not None and name not in scope.own:
            scope = scope.around
        return scope
