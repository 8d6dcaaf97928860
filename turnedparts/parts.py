"""The parts of statements and expressions that are of the right form."""

# What stands behind the first word, part by part.
EXPRESSIONS = {
    "none": (),
    "name": ("name",),
    "text": ("text",),
    "tuple": ("exprs",),
    "attr": ("expr", "field"),
    "op": ("name", "exprs"),
    "call": ("expr", "exprs", "named"),
    "choice": ("expr", "expr", "expr"),
    "lambda": ("params", "expr"),
}
STATEMENTS = {
    "use": ("name",),
    "take": ("name", "name", "name"),
    "def": ("name", "params", "block"),
    "class": ("name", "bases", "block"),
    "let": ("name", "expr"),
    "unpack": ("names", "expr"),
    "set": ("expr", "field", "expr"),
    "if": ("expr", "block", "rest"),
    "for": ("name", "exprs", "block"),
    "each": ("name", "expr", "block"),
    "return": ("maybe",),
    "yield": ("expr",),
    "raise": ("name", "maybe"),
    "try": ("block", "handlers", "rest"),
    "with": ("expr", "called", "block"),
    "nonlocal": ("names",),
    "see": ("expr",),
    "do": ("expr",),
    "pass": (),
}
# Only these have blocks; the others are looked through most often.
WITH_BLOCKS = {
    "def": True, "class": True, "if": True, "for": True, "each": True, "try": True, "with": True,
}


def blocks_of(statement):
    """The blocks that stand in a statement, in order."""
    if statement[0] not in WITH_BLOCKS:
        return []
    found = []
    for part, told in zip(statement[1:], STATEMENTS[statement[0]]):
        if told == "block" or told == "rest":
            found.append(part)
        elif told == "handlers":
            found.extend([row[2] for row in part])
    return found


def size_of(statement):
    """The number of statements that a statement is, with those in it."""
    return 1 + sum([size_of_block(block) for block in blocks_of(statement)])


def size_of_block(block):
    """The number of statements in a block, with those in them."""
    return sum([size_of(statement) for statement in block])


def numbered(block, number):
    """The pairs of a number and a statement of a block whose first statement has a number."""
    found = []
    for statement in block:
        found.append((number, statement))
        number = number + size_of(statement)
    return found


def defaults_of(params):
    """The defaults of parameters, in order."""
    return [row[2] for row in params if row[2] is not None]


def exprs_of(statement):
    """The expressions of a statement, in order, without those in its blocks."""
    found = []
    for part, told in zip(statement[1:], STATEMENTS[statement[0]]):
        found.extend(exprs_in(part, told))
    return found


def exprs_within(told):
    """The expressions that an expression is made of, in order."""
    found = []
    for part, kind in zip(told[1:], EXPRESSIONS[told[0]]):
        found.extend(exprs_in(part, kind))
    return found


def exprs_in(part, told):
    if told == "expr":
        return [part]
    if told == "maybe":
        return [] if part is None else [part]
    if told == "exprs" or told == "bases":
        return list(part)
    if told == "named":
        return [pair[1] for pair in part]
    if told == "params":
        return defaults_of(part)
    return []


def inside(block):
    """The statements of a block and those in them, in order, inner defs' blocks apart."""
    found = []
    for statement in block:
        found.append(statement)
        if statement[0] != "def":
            for inner in blocks_of(statement):
                found.extend(inside(inner))
    return found


def given_by(statement):
    """The names that a statement of a function gives, but for a try, those in its blocks apart."""
    kind = statement[0]
    if kind in ("let", "for", "each", "def"):
        return [statement[1]]
    if kind == "unpack":
        return list(statement[1])
    if kind == "with":
        return [] if statement[2] is None else [statement[2]]
    return []


def given_in(block):
    """The names that are given in a function's block, as they stand, inner defs' blocks apart."""
    found = []
    for statement in block:
        kind = statement[0]
        if kind == "try":
            found.extend(given_in(statement[1]))
            for _, name, inner in statement[2]:
                found.extend([] if name is None else [name])
                found.extend(given_in(inner))
            found.extend(given_in(statement[3]))
            continue
        found.extend(given_by(statement))
        if kind != "def" and kind in WITH_BLOCKS:
            for inner in blocks_of(statement):
                found.extend(given_in(inner))
    return found


def beyond_of(block):
    """The names that nonlocal names in a function's block, inner defs' blocks apart."""
    return [name for statement in inside(block) if statement[0] == "nonlocal" for name in statement[1]]


def own_names(params, block):
    """A dict whose keys are a function's own names."""
    beyond = beyond_of(block)
    names = [row[0] for row in params] + given_in(block)
    return {name: True for name in names if name not in beyond}
