"""Uses: what is one, and what a program does for it."""

from turnedparts.errors import BadUse, Handed
from turnedparts.running import run_on
from turnedparts.values import Walk, is_plain
from turnedparts.words import is_name, is_public, is_whole

MOST_INPUTS = 12
READS = {"def": "function", "class": "class", "use": "module"}


def check_use(use):
    """Raise BadUse, if a value is no use."""
    if not is_use(use):
        raise BadUse("a use is a read, a call or a method")


def is_use(thing):
    if not isinstance(thing, tuple) or len(thing) < 3:
        return False
    if not is_public(thing[1]) or not is_public(thing[2]):
        return False
    if thing[0] == "read":
        return len(thing) == 3
    if thing[0] == "call":
        return len(thing) == 5 and is_form(thing[3], thing[4])
    if thing[0] != "method" or len(thing) != 8:
        return False
    if not is_public(thing[5]) or thing[5] == "make":
        return False
    return is_form(thing[3], thing[4]) and is_form(thing[6], thing[7])


def is_form(many, names):
    """Whether two values are a number and names of arguments."""
    if not is_whole(many) or not 0 <= many <= MOST_INPUTS or not isinstance(names, tuple):
        return False
    return all([is_name(name) for name in names]) and list(names) == sorted(set(names))


def watch(run, use):
    """The events that are seen when a run does a use."""
    if use[0] == "read":
        found = run.built.tops.meant(use[1], use[2])
        if found is not None and found[2][0] in READS:
            return [("back", (READS[found[2][0]],))]
    code = run.built.new_code(use[1], 0, "use")
    code.rows = rows_of_use(run, use)
    run.begin(code, None, False)
    outcome = run_on(run)
    if outcome[0] == "return" and isinstance(outcome[1], Walk):
        run.events.append(("back", ("generator",)))
        go_through(run, outcome[1])
    elif outcome[0] == "return":
        hand_out(run, "back", outcome[1])
    else:
        hand_out_raised(run, outcome)
    return run.events


def rows_of_use(run, use):
    """The rows that do a use; wrong, if what it names is not there."""
    row = run.built.top_row(use[1], use[2])
    if use[0] == "read":
        return [row, ("return",)]
    kind = "def" if use[0] == "call" else "class"
    if not run.built.tops.means(use[1], use[2], kind):
        return [("wrong",)]
    rows = [row, *rows_of_call(run, "", use[3], use[4])]
    if kind == "class":
        rows.append(("method", use[5]))
        rows.extend(rows_of_call(run, ".", use[6], use[7]))
    return [*rows, ("return",)]


def rows_of_call(run, front, many, names):
    """The rows that call a value with inputs, by place and by name."""
    rows = [("const", run.meaning.reading(f"{front}{at}")) for at in range(many)]
    rows.extend([("const", run.meaning.reading(front + name)) for name in names])
    return [*rows, ("call", many, names)]


def hand_out(run, kind, value):
    if not is_plain(value):
        raise Handed(kind)
    run.events.append((kind, value))


def hand_out_raised(run, outcome):
    if not is_plain(outcome[2]):
        raise Handed("raise")
    run.events.append(outcome)


def go_through(run, walk):
    """Let outside go through a generator that came back."""
    many = 0
    while run.meaning.goes_on(many):
        if not walk.is_done:
            run.resume(walk)
            run_on(run)
        if walk.is_done:
            end_walk(run)
            return
        hand_out(run, "yield", run.outcome[1])
        many += 1
    if many > 0:
        run.close(walk)
        run_on(run)
    end_walk(run)


def end_walk(run):
    """See what is seen at the end of a generator."""
    outcome = run.outcome
    if outcome[0] == "raise":
        hand_out_raised(run, outcome)
    else:
        run.events.append(("end",))
