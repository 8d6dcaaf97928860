"""A module looked through once: whether its statements are of the right forms, and what is named where.

What hangs on more than the statement itself is kept, with the number of the statement: names and
where they are used first, and faults against the rules for tops, classes and functions.
"""

from turnedparts.errors import BadProgram
from turnedparts.looks import EXPRESSIONS, LENGTHS, STATEMENTS, TOPS
from turnedparts.scopes import Scope
from turnedparts.words import DEEPEST, KINDS, MOST_STATEMENTS, is_name


class Looker:
    """Looks through a module; raises BadProgram at the first statement that is not of the right form."""

    def __init__(self, module, names):
        self.module = module
        # Names that were looked at already.
        self.names = names
        self.number = -1
        self.top = Scope(-1, None, {}, None)
        self.scope = self.top
        self.scopes = []
        # The numbers of classes, with what their defs and lets give, like that of the top.
        self.classes = []
        # The parameters of lambdas around, whether a call or lambda was seen, and how deep the
        # statements of a class are, if there is one around.
        self.hidden = {}
        self.moves = False
        self.depth_in_class = 0
        self.rows = {}
        self.faults = []

    def misfit(self):
        """Raise BadProgram for the statement that is looked at."""
        raise BadProgram(self.module, self.number)

    def fault(self):
        """Keep that the statement that is looked at is against the rules."""
        self.faults.append(self.number)

    def look_at_top(self, block):
        """Look at all statements of the module."""
        for statement in block:
            number = self.number + 1
            self.look_at_statement(statement, 1)
            place = 3 if statement[0] == "take" else 1
            if statement[0] not in TOPS or statement[place] in self.rows:
                self.faults.append(number)
            else:
                self.rows[statement[place]] = (number, statement)

    def look_at_statement(self, statement, depth):
        self.number += 1
        if self.number >= MOST_STATEMENTS or depth > DEEPEST:
            self.misfit()
        if not isinstance(statement, tuple) or not statement or not isinstance(statement[0], str):
            self.misfit()
        look_at = STATEMENTS.get(statement[0])
        if look_at is None or len(statement) != LENGTHS[statement[0]]:
            self.misfit()
        look_at(self, statement, depth)

    def look_at_block(self, block, depth):
        for statement in block:
            self.look_at_statement(statement, depth)

    def see_block(self, thing):
        if not isinstance(thing, tuple) or not thing:
            self.misfit()

    def see_rest(self, thing):
        """See that a value can be a block that may be empty."""
        if not isinstance(thing, tuple):
            self.misfit()

    def see_name(self, thing):
        """See that a value is a name."""
        if not isinstance(thing, str) or thing not in self.names:
            if not is_name(thing):
                self.misfit()
            self.names[thing] = True

    def see_names(self, thing):
        """See that a value is a tuple of different names, not empty."""
        self.see_block(thing)
        for name in thing:
            self.see_name(name)
        self.see_different(thing)

    def see_different(self, names):
        if len({name: True for name in names}) != len(names):
            self.misfit()

    def look_at_expr(self, told, depth):
        """Look at a value that is to be an expression."""
        if depth > DEEPEST or not isinstance(told, tuple) or not told:
            self.misfit()
        kind = told[0]
        if kind == "name" and len(told) == 2:
            name = told[1]
            if not isinstance(name, str) or name not in self.names:
                self.see_name(name)
            if name not in self.scope.alone and name not in self.hidden:
                self.scope.alone[name] = self.number
            return
        if not isinstance(kind, str):
            self.misfit()
        look_at = EXPRESSIONS.get(kind)
        if look_at is None:
            self.misfit()
        look_at(self, told, depth + 1)

    def look_at_maybe(self, told):
        if told is not None:
            self.look_at_expr(told, 1)

    def look_at_exprs(self, exprs, depth):
        if not isinstance(exprs, tuple):
            self.misfit()
        for told in exprs:
            self.look_at_expr(told, depth)

    def look_at_named(self, pairs, depth):
        """Look at the named arguments of a call."""
        if not isinstance(pairs, tuple):
            self.misfit()
        for pair in pairs:
            if not isinstance(pair, tuple) or len(pair) != 2:
                self.misfit()
            self.see_name(pair[0])
            self.look_at_expr(pair[1], depth)
        if len(pairs) > 1:
            self.see_different([pair[0] for pair in pairs])

    def look_at_params(self, params, depth):
        """Look at parameters; a dict with their names as keys."""
        if not isinstance(params, tuple):
            self.misfit()
        names = {}
        last = 0
        must_have = False
        for row in params:
            if not isinstance(row, tuple) or len(row) != 3 or not isinstance(row[1], str) or row[1] not in KINDS:
                self.misfit()
            name, kind, default = row
            self.see_name(name)
            if default is not None:
                self.look_at_expr(default, depth)
            at = KINDS.index(kind)
            if name in names or at < last or (must_have and kind != "only" and default is None):
                self.misfit()
            must_have = must_have or (kind != "only" and default is not None)
            names[name] = True
            last = at
        return names
