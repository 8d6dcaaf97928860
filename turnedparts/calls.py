"""Calls: of functions, methods and classes, and what fits their parameters."""

from turnedparts.values import Family, Function, Method, Room, Thing


def invoke(run, called, arguments, named, is_quiet):
    """Call a value with a tuple of arguments and a list of pairs of a name and a value."""
    if isinstance(called, Function):
        call_function(run, called, arguments, named, is_quiet)
    elif isinstance(called, Method):
        call_function(run, called.function, (called.thing, *arguments), named, is_quiet)
    elif isinstance(called, Family):
        call_family(run, called, arguments, named, is_quiet)
    else:
        run.wrong()


def call_function(run, function, arguments, named, is_quiet):
    names = fitted(function, arguments, named)
    if names is None:
        run.wrong()
        return
    run.see_no_ring(function.code)
    run.begin(function.code, Room(names, function.room), is_quiet)


def call_family(run, family, arguments, named, is_quiet):
    """Make an object of a class; the frame that calls for it has it before its make is done."""
    kind, function = run.built.member(family, "make")
    if kind == "wrong" or (kind == "none" and (arguments or named)):
        run.wrong()
        return
    thing = Thing(family)
    if not is_quiet:
        run.hand_over(thing)
    if kind == "def":
        call_function(run, function, (thing, *arguments), named, True)


def fitted(function, arguments, named):
    """The names that a call gives, as far as they are known; None, if the arguments do not fit."""
    places = [row[0] for row in function.code.params if row[1] != "only"]
    if len(arguments) > len(places):
        return None
    given = dict(zip(places, arguments))
    by_name = [row[0] for row in function.code.params if row[1] != "front"]
    for name, value in named:
        if name in given or name not in by_name:
            return None
        given[name] = value
    for name, _, default in function.code.params:
        if name not in given:
            if default is None:
                return None
            if name in function.defaults:
                given[name] = function.defaults[name]
    return given
