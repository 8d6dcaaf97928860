"""Texts of modules and of expressions, written."""

from turnedparts.errors import BadProgram
from turnedparts.programs import check_program
from turnedparts.shapes import is_expr


def write_module(program, module):
    """The text of a module of a program."""
    check_program(program)
    if not isinstance(module, str) or module not in program:
        raise BadProgram(module, None)
    return "".join([f"{line}\n" for line in lines_of(program[module], 0)])


def write_expr(told):
    """The text of an expression."""
    if not is_expr(told):
        raise BadProgram(None, None)
    return of_expr(told)


def lines_of(block, depth):
    return [line for statement in block for line in lines_of_statement(statement, depth)]


def lines_of_statement(statement, depth):
    """The lines of a statement and its blocks."""
    front = "    " * depth
    kind = statement[0]
    if kind == "if":
        return [f"{front}if {of_expr(statement[1])}:", *lines_of(statement[2], depth + 1),
                *lines_of_rest("else", statement[3], depth)]
    if kind == "try":
        found = [f"{front}try:", *lines_of(statement[1], depth + 1)]
        for row in statement[2]:
            found.append(f"{front}except {row[0]}{of_called(row[1])}:")
            found.extend(lines_of(row[2], depth + 1))
        return [*found, *lines_of_rest("finally", statement[3], depth)]
    if kind in BLOCK_HEADS:
        write_head = BLOCK_HEADS[kind]
        return [f"{front}{write_head(statement)}:", *lines_of(statement[3], depth + 1)]
    write_line = LINES[kind]
    return [f"{front}{write_line(statement)}"]


def lines_of_rest(word, block, depth):
    if not block:
        return []
    front = "    " * depth
    return [f"{front}{word}:", *lines_of(block, depth + 1)]


def of_called(name):
    return "" if name is None else f" as {name}"


def of_def(statement):
    return f"def {statement[1]}({of_params(statement[2])})"


def of_class(statement):
    return f"class {statement[1]}({of_exprs(statement[2])})" if statement[2] else f"class {statement[1]}"


def of_for(statement):
    return f"for {statement[1]} in ({of_exprs(statement[2])})"


def of_each(statement):
    return f"each {statement[1]} in {of_expr(statement[2])}"


def of_with(statement):
    return f"with {of_expr(statement[1])}{of_called(statement[2])}"


def of_use(statement):
    return f"use {statement[1]}"


def of_take(statement):
    return f"from {statement[1]} take {statement[2]} as {statement[3]}"


def of_let(statement):
    return f"{statement[1]} = {of_expr(statement[2])}"


def of_unpack(statement):
    return f"{with_comma(list(statement[1]))} = {of_expr(statement[2])}"


def of_set(statement):
    return f"{of_tight(statement[1])}.{statement[2]} = {of_expr(statement[3])}"


def of_return(statement):
    return "return" if statement[1] is None else f"return {of_expr(statement[1])}"


def of_yield(statement):
    return f"yield {of_expr(statement[1])}"


def of_raise(statement):
    head = f"raise {statement[1]}"
    return head if statement[2] is None else f"{head} {of_expr(statement[2])}"


def of_nonlocal(statement):
    names = ", ".join(list(statement[1]))
    return f"nonlocal {names}"


def of_see(statement):
    return f"see {of_expr(statement[1])}"


def of_do(statement):
    return of_expr(statement[1])


def of_pass(statement):
    return "pass"


def of_expr(told):
    write_told = EXPRESSIONS[told[0]]
    return write_told(told)


def of_tight(told):
    """The text of what is called, has an attribute, or is in front of if or else."""
    return f"({of_expr(told)})" if told[0] in ("choice", "lambda") else of_expr(told)


def of_exprs(exprs):
    return ", ".join([of_expr(told) for told in exprs])


def with_comma(words):
    """Words with commas, one behind a single word."""
    return f"{words[0]}," if len(words) == 1 else ", ".join(words)


def of_none(told):
    return "none"


def of_name(told):
    return told[1]


def of_text(told):
    return f'"{told[1]}"'


def of_tuple(told):
    return f"({with_comma([of_expr(part) for part in told[1]])})"


def of_attr(told):
    return f"{of_tight(told[1])}.{told[2]}"


def of_op(told):
    return f"?{told[1]}({of_exprs(told[2])})"


def of_call(told):
    rows = [of_expr(part) for part in told[2]] + [f"{pair[0]}={of_expr(pair[1])}" for pair in told[3]]
    arguments = ", ".join(rows)
    return f"{of_tight(told[1])}({arguments})"


def of_choice(told):
    return f"{of_tight(told[2])} if {of_tight(told[1])} else {of_expr(told[3])}"


def of_lambda(told):
    params = of_params(told[1])
    return f"lambda {params}: {of_expr(told[2])}" if params else f"lambda: {of_expr(told[2])}"


def of_params(params):
    """The text of parameters, with the signs between their kinds."""
    rows = []
    for at, row in enumerate(params):
        if row[1] == "only" and (at == 0 or params[at - 1][1] != "only"):
            rows.append("*")
        rows.append(row[0] if row[2] is None else f"{row[0]}={of_expr(row[2])}")
        if row[1] == "front" and (at + 1 == len(params) or params[at + 1][1] != "front"):
            rows.append("/")
    return ", ".join(rows)


BLOCK_HEADS = {"def": of_def, "class": of_class, "for": of_for, "each": of_each, "with": of_with}
LINES = {
    "use": of_use,
    "take": of_take,
    "let": of_let,
    "unpack": of_unpack,
    "set": of_set,
    "return": of_return,
    "yield": of_yield,
    "raise": of_raise,
    "nonlocal": of_nonlocal,
    "see": of_see,
    "do": of_do,
    "pass": of_pass,
}
EXPRESSIONS = {
    "none": of_none,
    "name": of_name,
    "text": of_text,
    "tuple": of_tuple,
    "attr": of_attr,
    "op": of_op,
    "call": of_call,
    "choice": of_choice,
    "lambda": of_lambda,
}
