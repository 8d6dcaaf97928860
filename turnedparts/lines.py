"""The lines of texts, each read without the blocks behind it."""

from turnedparts.phrases import read_bases, read_expr, read_exprs, read_params


def read_use(cursor):
    cursor.need("word", "use")
    name = cursor.name([])
    cursor.end()
    return ("use", name)


def read_take(cursor):
    cursor.need("word", "from")
    module = cursor.name([])
    cursor.need("word", "take")
    name = cursor.name([])
    cursor.need("word", "as")
    called = cursor.name([])
    cursor.end()
    return ("take", module, name, called)


def read_def(cursor):
    cursor.need("word", "def")
    name = cursor.name([])
    cursor.need("sign", "(")
    params = read_params(cursor, ")", 1)
    cursor.need("sign", ")")
    end_of_head(cursor)
    return ("def", name, params)


def read_class(cursor):
    cursor.need("word", "class")
    name = cursor.name([])
    bases = read_bases(cursor) if cursor.skip("sign", "(") else ()
    end_of_head(cursor)
    return ("class", name, bases)


def end_of_head(cursor):
    cursor.need("sign", ":")
    cursor.end()


def read_if(cursor):
    cursor.need("word", "if")
    condition = read_expr(cursor, 1)
    end_of_head(cursor)
    return ("if", condition)


def read_else(cursor):
    cursor.need("word", "else")
    end_of_head(cursor)
    return ()


def read_for(cursor):
    cursor.need("word", "for")
    name = cursor.name([])
    cursor.need("word", "in")
    cursor.need("sign", "(")
    exprs = read_exprs(cursor, 1)
    end_of_head(cursor)
    return ("for", name, exprs)


def read_each(cursor):
    cursor.need("word", "each")
    name = cursor.name([])
    cursor.need("word", "in")
    told = read_expr(cursor, 1)
    end_of_head(cursor)
    return ("each", name, told)


def read_return(cursor):
    cursor.need("word", "return")
    return ("return", read_maybe(cursor))


def read_maybe(cursor):
    """Read an expression, if one stands there, and the end."""
    if cursor.kind() == "end":
        return None
    told = read_expr(cursor, 1)
    cursor.end()
    return told


def read_yield(cursor):
    cursor.need("word", "yield")
    return ("yield", read_last(cursor))


def read_last(cursor):
    """Read an expression and the end."""
    told = read_expr(cursor, 1)
    cursor.end()
    return told


def read_raise(cursor):
    cursor.need("word", "raise")
    kind = cursor.name([])
    return ("raise", kind, read_maybe(cursor))


def read_try(cursor):
    cursor.need("word", "try")
    end_of_head(cursor)
    return ("try",)


def read_except(cursor):
    cursor.need("word", "except")
    kind = cursor.name([])
    called = read_called(cursor)
    end_of_head(cursor)
    return (kind, called)


def read_called(cursor):
    return cursor.name([]) if cursor.skip("word", "as") else None


def read_finally(cursor):
    cursor.need("word", "finally")
    end_of_head(cursor)
    return ()


def read_with(cursor):
    cursor.need("word", "with")
    told = read_expr(cursor, 1)
    called = read_called(cursor)
    end_of_head(cursor)
    return ("with", told, called)


def read_nonlocal(cursor):
    cursor.need("word", "nonlocal")
    names = [cursor.name([])]
    while cursor.skip("sign", ","):
        names.append(cursor.name(names))
    cursor.end()
    return ("nonlocal", tuple(names))


def read_see(cursor):
    cursor.need("word", "see")
    return ("see", read_last(cursor))


def read_pass(cursor):
    cursor.need("word", "pass")
    cursor.end()
    return ("pass",)


def read_other(cursor):
    """Read a let, an unpack, a set or a do: all that begins with an expression."""
    told = read_expr(cursor, 1)
    is_bare = told[0] == "name" and cursor.at == 1
    if is_bare and cursor.is_at("sign", ","):
        return read_unpack(cursor, told[1])
    if is_bare and cursor.skip("sign", "="):
        return ("let", told[1], read_last(cursor))
    # An attribute in brackets ends with a bracket, one that can be set with its name.
    if told[0] == "attr" and cursor.rows[cursor.at - 1][0] == "word" and cursor.skip("sign", "="):
        return ("set", told[1], told[2], read_last(cursor))
    cursor.end()
    return ("do", told)


def read_unpack(cursor, name):
    names = [name]
    cursor.need("sign", ",")
    if not cursor.skip("sign", "="):
        names.append(cursor.name(names))
        while cursor.skip("sign", ","):
            names.append(cursor.name(names))
        cursor.need("sign", "=")
    return ("unpack", tuple(names), read_last(cursor))


LINES = {
    "use": read_use,
    "from": read_take,
    "def": read_def,
    "class": read_class,
    "if": read_if,
    "else": read_else,
    "for": read_for,
    "each": read_each,
    "return": read_return,
    "yield": read_yield,
    "raise": read_raise,
    "try": read_try,
    "except": read_except,
    "finally": read_finally,
    "with": read_with,
    "nonlocal": read_nonlocal,
    "see": read_see,
    "pass": read_pass,
    "": read_other,
}
