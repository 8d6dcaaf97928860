"""Rows of plain steps, made of statements and of whole codes."""

from turnedparts.making import Maker, make_expr, make_exprs, make_function, make_return
from turnedparts.parts import size_of


def make_rows(built, code):
    """The rows of a code."""
    maker = Maker(built, code)
    if code.kind == "top":
        make_defaults(maker, code.params)
    if code.is_walk:
        maker.emit("wait")
    if code.kind in ("let", "lambda"):
        make_expr(maker, code.body)
        maker.emit("return")
    else:
        maker.number = code.number + 1
        make_block(maker, code.body)
        make_return(maker)
    return maker.rows


def make_defaults(maker, params):
    """Make the rows that reckon the defaults that a call leaves out, outside of the def."""
    scopes = maker.scopes
    for row in params:
        if row[2] is not None:
            given = maker.emit("unless given", row[0], 0)
            maker.scopes = ()
            make_expr(maker, row[2])
            maker.scopes = scopes
            maker.emit("give", 0, row[0])
            maker.put(given, "unless given", row[0], maker.here())


def make_block(maker, block):
    """Make the rows of a block; the number is that of its first statement, then of what is behind."""
    for statement in block:
        if maker.built.is_traced:
            maker.emit("mark", (maker.module, maker.number))
        make_told = STATEMENTS[statement[0]]
        make_told(maker, statement)


def make_inner(maker, block):
    """Make the rows of the first block in a statement whose own rows are made."""
    maker.number += 1
    make_block(maker, block)


def make_give(maker, name):
    """Make the row that gives a name what is on the stack, or drops it."""
    if name is None:
        maker.emit("drop")
    else:
        maker.emit("give", maker.hops(name), name)


def make_let(maker, statement):
    make_expr(maker, statement[2])
    make_give(maker, statement[1])
    maker.number += 1


def make_unpack(maker, statement):
    make_expr(maker, statement[2])
    maker.emit("unpack", len(statement[1]))
    for name in statement[1]:
        make_give(maker, name)
    maker.number += 1


def make_set(maker, statement):
    make_expr(maker, statement[3])
    make_expr(maker, statement[1])
    maker.emit("set", statement[2])
    maker.number += 1


def make_if(maker, statement):
    make_expr(maker, statement[1])
    no = maker.emit("unless", 0)
    make_inner(maker, statement[2])
    behind = maker.emit("jump", 0)
    maker.put(no, "unless", maker.here())
    make_block(maker, statement[3])
    maker.put(behind, "jump", maker.here())


def make_for(maker, statement):
    make_exprs(maker, statement[2])
    maker.emit("items", len(statement[2]))
    again = maker.emit("item", 0)
    make_give(maker, statement[1])
    make_inner(maker, statement[3])
    maker.emit("jump", again)
    maker.put(again, "item", maker.here())


def make_each(maker, statement):
    make_expr(maker, statement[2])
    begin = maker.emit("each", 0)
    again = maker.emit("go", 0)
    make_give(maker, statement[1])
    make_inner(maker, statement[3])
    maker.emit("jump", again)
    maker.put(begin, "each", maker.emit("on"))
    maker.put(again, "go", maker.here())


def make_return_told(maker, statement):
    if statement[1] is None:
        make_return(maker)
    else:
        make_expr(maker, statement[1])
        maker.emit("return")
    maker.number += 1


def make_raise(maker, statement):
    make_expr(maker, ("none",) if statement[2] is None else statement[2])
    maker.emit("raise", statement[1])
    maker.number += 1


def make_try(maker, statement):
    """Make the rows of a try; those of its last block stand once, behind all ways to them."""
    begin = maker.emit("try", (), 0)
    has_last = bool(statement[3])
    make_inner(maker, statement[1])
    maker.emit("leave block")
    ends = [maker.emit("jump", 0)]
    handlers = []
    for kind, name, block in statement[2]:
        handlers.append((kind, maker.here()))
        make_give(maker, name)
        make_block(maker, block)
        if has_last:
            maker.emit("leave block")
        ends.append(maker.emit("jump", 0))
    for at in ends:
        maker.put(at, "jump", maker.here())
    last = None
    if has_last:
        last = maker.emit("nothing") + 1
        make_block(maker, statement[3])
        maker.emit("on")
    maker.put(begin, "try", tuple(handlers), last)


def make_with(maker, statement):
    make_expr(maker, statement[1])
    maker.emit("thing")
    maker.emit("copy")
    maker.emit("attr", "enter")
    maker.emit("swap")
    maker.emit("attr", "leave")
    maker.emit("swap")
    maker.emit("call", 0, ())
    make_give(maker, statement[2])
    begin = maker.emit("with", 0)
    make_inner(maker, statement[3])
    maker.emit("leave with")
    maker.put(begin, "with", maker.emit("on"))


def make_def(maker, statement):
    number = maker.number
    code = maker.built.def_code(maker.module, number, statement, "def", maker.scopes)
    make_function(maker, code)
    make_give(maker, statement[1])
    maker.number = number + size_of(statement)


def make_yield(maker, statement):
    make_expr(maker, statement[1])
    maker.emit("yield")
    maker.number += 1


def make_see(maker, statement):
    make_expr(maker, statement[1])
    maker.emit("see")
    maker.number += 1


def make_do(maker, statement):
    make_expr(maker, statement[1])
    maker.emit("drop")
    maker.number += 1


def make_nothing(maker, statement):
    maker.number += 1


STATEMENTS = {
    "def": make_def,
    "let": make_let,
    "unpack": make_unpack,
    "set": make_set,
    "if": make_if,
    "for": make_for,
    "each": make_each,
    "return": make_return_told,
    "yield": make_yield,
    "raise": make_raise,
    "try": make_try,
    "with": make_with,
    "nonlocal": make_nothing,
    "see": make_see,
    "do": make_do,
    "pass": make_nothing,
}
