"""The forms of expressions and of parameters, each looked at alone."""

from turnedparts.errors import BadProgram
from turnedparts.looking import Looker


def is_expr(thing):
    """Whether a value is an expression."""
    try:
        Looker(None, {}).look_at_expr(thing, 1)
    except BadProgram:
        return False
    return True


def are_params(thing):
    """Whether a value is parameters of a def."""
    try:
        Looker(None, {}).look_at_params(thing, 1)
    except BadProgram:
        return False
    return True
