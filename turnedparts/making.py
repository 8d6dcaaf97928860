"""Rows of plain steps, made of expressions.

A row is a tuple of a word and what it needs; the steps of a frame take values from its stack
and put values on it.
"""

from turnedparts.values import NONE


class Maker:
    """Makes the rows of a code."""

    def __init__(self, built, code):
        self.built = built
        self.module = code.module
        self.number = code.number
        self.scopes = code.scopes
        self.rows = []

    def emit(self, *row):
        """Put a row behind the others; its place."""
        self.rows.append(row)
        return len(self.rows) - 1

    def here(self):
        """The place of the row that comes next."""
        return len(self.rows)

    def put(self, at, *row):
        """Put a row in the place of one."""
        self.rows[at] = row

    def hops(self, name):
        """How many functions further out a name is a function's own, -1 if of none."""
        for at, names in enumerate(self.scopes):
            if name in names:
                return at
        return -1


def make_expr(maker, told):
    """Make the rows that put what an expression comes to on the stack."""
    make_told = EXPRESSIONS[told[0]]
    make_told(maker, told)


def make_exprs(maker, exprs):
    for told in exprs:
        make_expr(maker, told)


def make_constant(maker, told):
    maker.emit("const", told)


def make_name(maker, told):
    hops = maker.hops(told[1])
    if hops >= 0:
        maker.emit("local", hops, told[1])
    else:
        maker.rows.append(maker.built.top_row(maker.module, told[1]))


def make_tuple(maker, told):
    make_exprs(maker, told[1])
    maker.emit("tuple", len(told[1]))


def make_attr(maker, told):
    make_expr(maker, told[1])
    maker.emit("attr", told[2])


def make_op(maker, told):
    make_exprs(maker, told[2])
    maker.emit("op", told[1], len(told[2]))


def make_call(maker, told):
    make_expr(maker, told[1])
    make_exprs(maker, told[2])
    make_exprs(maker, [pair[1] for pair in told[3]])
    maker.emit("call", len(told[2]), tuple([pair[0] for pair in told[3]]))


def make_choice(maker, told):
    make_expr(maker, told[1])
    no = maker.emit("unless", 0)
    make_expr(maker, told[2])
    behind = maker.emit("jump", 0)
    maker.put(no, "unless", maker.here())
    make_expr(maker, told[3])
    maker.put(behind, "jump", maker.here())


def make_lambda(maker, told):
    code = maker.built.new_code(maker.module, maker.number, "lambda")
    code.params, code.body = told[1], told[2]
    code.scopes = ({row[0]: True for row in told[1]}, *maker.scopes)
    make_function(maker, code)


def make_function(maker, code):
    """Make the rows that put a function with its defaults on the stack."""
    rows = [row for row in code.params if row[2] is not None]
    make_exprs(maker, [row[2] for row in rows])
    maker.emit("function", code, tuple([row[0] for row in rows]))


def make_return(maker):
    maker.emit("const", NONE)
    maker.emit("return")


EXPRESSIONS = {
    "none": make_constant,
    "name": make_name,
    "text": make_constant,
    "tuple": make_tuple,
    "attr": make_attr,
    "op": make_op,
    "call": make_call,
    "choice": make_choice,
    "lambda": make_lambda,
}
