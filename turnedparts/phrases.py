"""Expressions, bases and parameters, read from a line."""

DEEPEST = 30


def read_expr(cursor, depth):
    """Read an expression, choices and lambdas too."""
    if depth > DEEPEST:
        cursor.misfit()
    if cursor.skip("word", "lambda"):
        params = read_params(cursor, ":", depth + 1)
        cursor.need("sign", ":")
        return ("lambda", params, read_expr(cursor, depth + 1))
    first = read_tight(cursor, depth)
    if not cursor.skip("word", "if"):
        return first
    condition = read_tight(cursor, depth)
    cursor.need("word", "else")
    return ("choice", condition, first, read_expr(cursor, depth + 1))


def read_tight(cursor, depth):
    """Read an expression that is no choice and no lambda, unless in brackets."""
    told = read_single(cursor, depth)
    while True:
        if cursor.skip("sign", "."):
            told = ("attr", told, read_field(cursor))
        elif cursor.skip("sign", "("):
            exprs, named = read_arguments(cursor, depth + 1)
            told = ("call", told, exprs, named)
        else:
            return told


def read_field(cursor):
    return cursor.name(["make"])


def read_single(cursor, depth):
    if cursor.skip("word", "none"):
        return ("none",)
    if cursor.kind() == "word":
        return ("name", cursor.name([]))
    if cursor.skip("sign", "?"):
        name = cursor.name([])
        cursor.need("sign", "(")
        return ("op", name, read_exprs(cursor, depth + 1))
    if cursor.skip("sign", "("):
        return read_brackets(cursor, depth + 1)
    return ("text", cursor.text())


def read_brackets(cursor, depth):
    """Read a tuple, or an expression in brackets, behind the first bracket."""
    if cursor.skip("sign", ")"):
        return ("tuple", ())
    first = read_expr(cursor, depth)
    if cursor.skip("sign", ")"):
        return first
    cursor.need("sign", ",")
    return ("tuple", (first, *read_exprs(cursor, depth)))


def read_exprs(cursor, depth):
    """Read expressions and the bracket behind them."""
    found = []
    while not cursor.skip("sign", ")"):
        found.append(read_expr(cursor, depth))
        if not cursor.skip("sign", ","):
            cursor.need("sign", ")")
            break
    return tuple(found)


def read_arguments(cursor, depth):
    """Read arguments, then named ones, and the bracket behind them."""
    exprs = []
    named = []
    while not cursor.skip("sign", ")"):
        if named or cursor.is_at_named():
            name = cursor.name([pair[0] for pair in named])
            cursor.need("sign", "=")
            named.append((name, read_expr(cursor, depth)))
        else:
            exprs.append(read_expr(cursor, depth))
        if not cursor.skip("sign", ","):
            cursor.need("sign", ")")
            break
    return tuple(exprs), tuple(named)


def read_bases(cursor):
    """Read the bases of a class and the bracket behind them."""
    found = []
    while not cursor.skip("sign", ")"):
        found.append(read_base(cursor, 1))
        if not cursor.skip("sign", ","):
            cursor.need("sign", ")")
            break
    return tuple(found)


def read_base(cursor, depth):
    """Read a name or an attribute of a name."""
    if depth > DEEPEST:
        cursor.misfit()
    if cursor.skip("sign", "("):
        told = read_base(cursor, depth + 1)
        cursor.need("sign", ")")
    else:
        told = ("name", cursor.name([]))
    if told[0] == "name" and cursor.skip("sign", "."):
        return ("attr", told, read_field(cursor))
    return told


def read_params(cursor, close, depth):
    """Read parameters up to a sign that closes them; their defaults are so deep."""
    rows = []
    kind = "plain"
    while not cursor.is_at("sign", close):
        if rows and kind == "plain" and "front" not in [row[1] for row in rows] and cursor.skip("sign", "/"):
            rows = [(row[0], "front", row[2]) for row in rows]
        else:
            if kind == "plain" and cursor.skip("sign", "*"):
                kind = "only"
                cursor.need("sign", ",")
            rows.append(read_param(cursor, kind, rows, depth))
        if not cursor.skip("sign", ","):
            break
    if not cursor.is_at("sign", close):
        cursor.misfit()
    return tuple(rows)


def read_param(cursor, kind, rows, depth):
    name = cursor.name([row[0] for row in rows])
    # Behind a front or plain one with a default all of them have one.
    if kind == "plain" and rows and rows[-1][2] is not None and not cursor.is_at("sign", "="):
        cursor.misfit()
    default = read_expr(cursor, depth) if cursor.skip("sign", "=") else None
    return (name, kind, default)
