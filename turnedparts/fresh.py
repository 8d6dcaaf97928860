"""The strings that stand in programs, and names that come nowhere."""

from turnedparts.words import is_name

LETTERS = "abcdefghijklmnopqrstuvwxyz"


def strings_of(program):
    """A dict whose keys are the names of a program's modules and all strings in its statements."""
    found = {module: True for module in program}
    left = list(program.values())
    while left:
        part = left.pop()
        if isinstance(part, tuple):
            left.extend(part)
        elif part is not None:
            found[part] = True
    return found


def comes_nowhere(program, name):
    """Whether a value is a name, and one that comes nowhere in a program."""
    return is_name(name) and name not in strings_of(program)


def fresh_names(taken, many):
    """The first so many of `_va`, `_vb` and so on that are not among the keys of a dict."""
    found = []
    at = 0
    while len(found) < many:
        name = "_v" + letters_of(at)
        if name not in taken:
            found.append(name)
        at += 1
    return found


def letters_of(number):
    """The letters with a number among a, b, .., z, aa, ab, .. and so on."""
    found = ""
    left = number + 1
    while left > 0:
        left -= 1
        found = LETTERS[left - left // 26 * 26] + found
        left = left // 26
    return found
