"""The forms of expressions and statements, each looked at alone."""

from turnedparts.words import is_name, is_text

DEEPEST = 12
KINDS = ("front", "plain", "only")

# What stands behind the first word, part by part.
EXPRESSIONS = {
    "none": (),
    "name": ("name",),
    "text": ("text",),
    "tuple": ("exprs",),
    "attr": ("expr", "field"),
    "op": ("name", "exprs"),
    "call": ("expr", "exprs", "named"),
    "choice": ("expr", "expr", "expr"),
    "lambda": ("params", "expr"),
}
STATEMENTS = {
    "use": ("name",),
    "take": ("name", "name", "name"),
    "def": ("name", "params", "block"),
    "class": ("name", "bases", "block"),
    "let": ("name", "expr"),
    "unpack": ("names", "expr"),
    "set": ("expr", "field", "expr"),
    "if": ("expr", "block", "rest"),
    "for": ("name", "exprs", "block"),
    "each": ("name", "expr", "block"),
    "return": ("maybe",),
    "yield": ("expr",),
    "raise": ("name", "maybe"),
    "try": ("block", "handlers", "rest"),
    "with": ("expr", "called", "block"),
    "nonlocal": ("names",),
    "see": ("expr",),
    "do": ("expr",),
    "pass": (),
}


def is_expr(thing):
    """Whether a value is an expression."""
    return fits_expr(thing, 1)


def fits_statement(thing):
    """Whether a value is of the form of a statement, but for the statements in its blocks."""
    if not begins_with_word(thing) or not fits_parts(thing, STATEMENTS.get(thing[0]), 1):
        return False
    return thing[0] != "try" or bool(thing[2] or thing[3])


def begins_with_word(thing):
    return isinstance(thing, tuple) and len(thing) > 0 and isinstance(thing[0], str)


def fits_parts(thing, parts, depth):
    if parts is None or len(thing) != len(parts) + 1:
        return False
    for part, told in zip(thing[1:], parts):
        check = CHECKS[told]
        if not check(part, depth):
            return False
    return True


def fits_expr(thing, depth):
    if depth > DEEPEST or not begins_with_word(thing):
        return False
    return fits_parts(thing, EXPRESSIONS.get(thing[0]), depth + 1)


def fits_maybe(thing, depth):
    return thing is None or fits_expr(thing, depth)


def fits_exprs(thing, depth):
    return isinstance(thing, tuple) and all([fits_expr(part, depth) for part in thing])


def fits_name(thing, depth):
    return is_name(thing)


def fits_called(thing, depth):
    return thing is None or is_name(thing)


def fits_field(thing, depth):
    return is_name(thing) and thing != "make"


def fits_text(thing, depth):
    return is_text(thing)


def fits_names(thing, depth):
    if not isinstance(thing, tuple) or not thing:
        return False
    return all([is_name(name) for name in thing]) and are_different(thing)


def are_different(names):
    return len(set(names)) == len(names)


def fits_named(thing, depth):
    if not isinstance(thing, tuple):
        return False
    for pair in thing:
        if not isinstance(pair, tuple) or len(pair) != 2:
            return False
        if not is_name(pair[0]) or not fits_expr(pair[1], depth):
            return False
    return are_different([pair[0] for pair in thing])


def fits_params(thing, depth):
    if not isinstance(thing, tuple) or not all([fits_param(row, depth) for row in thing]):
        return False
    if not are_different([row[0] for row in thing]):
        return False
    order = [KINDS.index(row[1]) for row in thing]
    given = [row[2] is not None for row in thing if row[1] != "only"]
    return order == sorted(order) and given == sorted(given)


def fits_param(thing, depth):
    if not isinstance(thing, tuple) or len(thing) != 3:
        return False
    if not is_name(thing[0]) or not isinstance(thing[1], str) or thing[1] not in KINDS:
        return False
    return fits_maybe(thing[2], depth)


def fits_bases(thing, depth):
    return isinstance(thing, tuple) and all([fits_base(part, depth) for part in thing])


def fits_base(thing, depth):
    if not fits_expr(thing, depth):
        return False
    return thing[0] == "name" or (thing[0] == "attr" and thing[1][0] == "name")


def fits_block(thing, depth):
    return isinstance(thing, tuple) and len(thing) > 0


def fits_rest(thing, depth):
    return isinstance(thing, tuple)


def fits_handlers(thing, depth):
    return isinstance(thing, tuple) and all([fits_handler(row) for row in thing])


def fits_handler(thing):
    if not isinstance(thing, tuple) or len(thing) != 3:
        return False
    return is_name(thing[0]) and fits_called(thing[1], 1) and fits_block(thing[2], 1)


CHECKS = {
    "name": fits_name,
    "text": fits_text,
    "field": fits_field,
    "called": fits_called,
    "names": fits_names,
    "expr": fits_expr,
    "maybe": fits_maybe,
    "exprs": fits_exprs,
    "named": fits_named,
    "params": fits_params,
    "bases": fits_bases,
    "block": fits_block,
    "rest": fits_rest,
    "handlers": fits_handlers,
}
