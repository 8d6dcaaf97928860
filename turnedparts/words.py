"""Names and texts: the words that programs are made of."""

SIGNS = "abcdefghijklmnopqrstuvwxyz_"
BLANK_OR_LETTER = " abcdefghijklmnopqrstuvwxyz"
LONGEST = 12
# How deep expressions, and statements, are nested, and how many statements a module has.
DEEPEST = 12
MOST_STATEMENTS = 200
KINDS = ("front", "plain", "only")
KEYWORDS = {
    "use": True, "from": True, "take": True, "as": True, "def": True, "class": True, "if": True,
    "else": True, "for": True, "in": True, "each": True, "return": True, "yield": True,
    "raise": True, "try": True, "except": True, "finally": True, "with": True, "nonlocal": True,
    "see": True, "pass": True, "lambda": True, "none": True,
}


def is_name(thing):
    """Whether a value is a name."""
    if not isinstance(thing, str) or not 1 <= len(thing) <= LONGEST:
        return False
    return not thing.strip(SIGNS) and thing not in KEYWORDS


def is_public(thing):
    """Whether a value is a name that is public."""
    return is_name(thing) and not thing.startswith("_")


def is_text(thing):
    """Whether a value can be the text of a text."""
    if not isinstance(thing, str) or len(thing) > LONGEST:
        return False
    return not thing.strip(BLANK_OR_LETTER)


def is_whole(thing):
    """Whether a value is an integer, which True and False are not."""
    return isinstance(thing, int) and not isinstance(thing, bool)
