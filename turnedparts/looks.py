"""What statements and expressions must be like, by their first words; parts of them are looked at by a looker."""

from turnedparts.scopes import Scope
from turnedparts.words import DEEPEST, is_text


def look_at_constant(looker, told, depth):
    if len(told) != 1:
        looker.misfit()


def look_at_text(looker, told, depth):
    if len(told) != 2 or not is_text(told[1]):
        looker.misfit()


def look_at_tuple(looker, told, depth):
    if len(told) != 2:
        looker.misfit()
    looker.look_at_exprs(told[1], depth)


def look_at_attr(looker, told, depth):
    if len(told) != 3 or told[2] == "make":
        looker.misfit()
    looker.see_name(told[2])
    first = told[1]
    if not isinstance(first, tuple) or len(first) != 2 or first[0] != "name" or depth > DEEPEST:
        looker.look_at_expr(first, depth)
        return
    looker.see_name(first[1])
    if first[1] not in looker.hidden:
        looker.scope.firsts.setdefault(first[1], looker.number)


def look_at_op(looker, told, depth):
    if len(told) != 3:
        looker.misfit()
    looker.see_name(told[1])
    looker.look_at_exprs(told[2], depth)


def look_at_call(looker, told, depth):
    if len(told) != 4:
        looker.misfit()
    looker.moves = True
    looker.look_at_expr(told[1], depth)
    looker.look_at_exprs(told[2], depth)
    looker.look_at_named(told[3], depth)


def look_at_choice(looker, told, depth):
    if len(told) != 4:
        looker.misfit()
    for part in told[1:]:
        looker.look_at_expr(part, depth)


def look_at_lambda(looker, told, depth):
    if len(told) != 3:
        looker.misfit()
    looker.moves = True
    names = looker.look_at_params(told[1], depth)
    hidden = looker.hidden
    looker.hidden = {**hidden, **names}
    looker.look_at_expr(told[2], depth)
    looker.hidden = hidden


def look_at_use(looker, statement, depth):
    for name in statement[1:]:
        looker.see_name(name)
    if looker.scope.around is not None:
        looker.fault()


def look_at_def(looker, statement, depth):
    is_make = depth == looker.depth_in_class and statement[1] == "make"
    looker.see_name(statement[1])
    looker.see_block(statement[3])
    scope = looker.scope
    looker.moves = False
    params = looker.look_at_params(statement[2], 1)
    if looker.moves and scope.around is None:
        looker.fault()
    scope.given.append(statement[1])
    inner = Scope(looker.number, scope, params, statement[2][0][0] if is_make and params else None)
    looker.scopes.append(inner)
    looker.scope = inner
    looker.look_at_block(statement[3], depth + 1)
    looker.scope = scope
    inner.settle()
    if is_make and (inner.is_walk or inner.kept in inner.given):
        looker.faults.append(inner.number)


def look_at_class(looker, statement, depth):
    looker.see_name(statement[1])
    looker.see_block(statement[3])
    looker.look_at_exprs(statement[2], 1)
    for told in statement[2]:
        if told[0] != "name" and (told[0] != "attr" or told[1][0] != "name"):
            looker.misfit()
    if looker.scope.around is not None:
        looker.fault()
    looker.depth_in_class = depth + 1
    first = looker.number
    given = {}
    for inner in statement[3]:
        number = looker.number + 1
        looker.look_at_statement(inner, depth + 1)
        if inner[0] == "pass":
            continue
        if inner[0] not in ("def", "let") or inner[1] in given or inner[:2] == ("let", "make"):
            looker.faults.append(number)
        else:
            given[inner[1]] = (number, inner)
    looker.classes.append((first, given))
    looker.depth_in_class = 0


def look_at_let(looker, statement, depth):
    looker.see_name(statement[1])
    looker.moves = False
    looker.look_at_expr(statement[2], 1)
    looker.scope.given.append(statement[1])
    if looker.moves and looker.scope.around is None:
        looker.fault()


def look_at_unpack(looker, statement, depth):
    looker.see_names(statement[1])
    looker.look_at_expr(statement[2], 1)
    looker.scope.given.extend(list(statement[1]))


def look_at_set(looker, statement, depth):
    looker.look_at_expr(statement[1], 1)
    looker.see_name(statement[2])
    looker.look_at_expr(statement[3], 1)
    if statement[2] == "make":
        looker.misfit()
    if looker.scope.kept is None or statement[1] != ("name", looker.scope.kept):
        looker.fault()


def look_at_if(looker, statement, depth):
    looker.look_at_expr(statement[1], 1)
    looker.see_block(statement[2])
    looker.see_rest(statement[3])
    looker.look_at_block(statement[2], depth + 1)
    looker.look_at_block(statement[3], depth + 1)


def look_at_for(looker, statement, depth):
    looker.see_name(statement[1])
    looker.look_at_exprs(statement[2], 1)
    looker.see_block(statement[3])
    looker.scope.given.append(statement[1])
    looker.look_at_block(statement[3], depth + 1)


def look_at_each(looker, statement, depth):
    looker.see_name(statement[1])
    looker.look_at_expr(statement[2], 1)
    looker.see_block(statement[3])
    looker.scope.given.append(statement[1])
    looker.look_at_block(statement[3], depth + 1)


def look_at_maybe_last(looker, statement, depth):
    """Look at a return or a raise."""
    if statement[0] == "raise":
        looker.see_name(statement[1])
    looker.look_at_maybe(statement[-1])


def look_at_yield(looker, statement, depth):
    looker.look_at_expr(statement[1], 1)
    scope = looker.scope
    scope.is_walk = True


def look_at_try(looker, statement, depth):
    _, block, handlers, rest = statement
    looker.see_block(block)
    looker.see_rest(handlers)
    looker.see_rest(rest)
    if not handlers and not rest:
        looker.misfit()
    for row in handlers:
        if not isinstance(row, tuple) or len(row) != 3:
            looker.misfit()
        looker.see_name(row[0])
        looker.see_block(row[2])
        if row[1] is not None:
            looker.see_name(row[1])
            looker.scope.given.append(row[1])
    looker.look_at_block(block, depth + 1)
    for row in handlers:
        looker.look_at_block(row[2], depth + 1)
    looker.look_at_block(rest, depth + 1)


def look_at_with(looker, statement, depth):
    looker.look_at_expr(statement[1], 1)
    looker.see_block(statement[3])
    if statement[2] is not None:
        looker.see_name(statement[2])
        looker.scope.given.append(statement[2])
    looker.look_at_block(statement[3], depth + 1)


def look_at_nonlocal(looker, statement, depth):
    looker.see_names(statement[1])
    looker.scope.beyond.extend(list(statement[1]))


def look_at_told(looker, statement, depth):
    """Look at a see or a do."""
    looker.look_at_expr(statement[1], 1)


def look_at_pass(looker, statement, depth):
    pass


EXPRESSIONS = {
    "none": look_at_constant, "text": look_at_text, "tuple": look_at_tuple, "attr": look_at_attr, "op": look_at_op,
    "call": look_at_call, "choice": look_at_choice, "lambda": look_at_lambda,
}
STATEMENTS = {
    "use": look_at_use, "take": look_at_use, "def": look_at_def, "class": look_at_class, "let": look_at_let,
    "unpack": look_at_unpack, "set": look_at_set, "if": look_at_if, "for": look_at_for, "each": look_at_each,
    "return": look_at_maybe_last, "yield": look_at_yield, "raise": look_at_maybe_last, "try": look_at_try,
    "with": look_at_with, "nonlocal": look_at_nonlocal, "see": look_at_told, "do": look_at_told, "pass": look_at_pass,
}
# How many parts statements have, with their first words.
LENGTHS = {
    "use": 2, "take": 4, "def": 4, "class": 4, "let": 3, "unpack": 3, "set": 4, "if": 4, "for": 4, "each": 4,
    "return": 2, "yield": 2, "raise": 3, "try": 4, "with": 4, "nonlocal": 2, "see": 2, "do": 2, "pass": 1,
}
TOPS = ("use", "take", "def", "class", "let")
