"""The steps that reckon expressions: each takes values from a frame's stack and puts one on it."""

from turnedparts.calls import invoke
from turnedparts.values import Family, Function, Method, Space, Thing, is_plain


def taken(stack, many):
    """Take so many values from a stack; a tuple of them."""
    at = len(stack) - many
    values = tuple(stack[at:])
    del stack[at:]
    return values


def put_constant(run, frame, row):
    frame.stack.append(row[1])


def put_local(run, frame, row):
    value = room_of(frame, row[1]).names.get(row[2])
    if value is None:
        run.wrong()
    else:
        frame.stack.append(value)


def room_of(frame, hops):
    room = frame.room
    for _ in range(hops):
        room = room.around
    return room


def reckon_let(run, frame, row):
    reckon_code(run, row[1])


def reckon_code(run, code):
    """Reckon a let of a top or a class."""
    if run.is_active(code):
        run.wrong()
    else:
        run.begin(code, None, False)


def find_wrong(run, frame, row):
    run.wrong()


def put_tuple(run, frame, row):
    frame.stack.append(("tuple", taken(frame.stack, row[1])))


def put_attribute(run, frame, row):
    value = frame.stack.pop()
    if isinstance(value, Thing):
        put_of_thing(run, frame, value, row[1])
    elif isinstance(value, Family):
        put_member(run, frame, value, row[1], None)
    elif isinstance(value, Space):
        put_of_space(run, frame, value, row[1])
    elif isinstance(value, tuple) and value[0] == "number":
        frame.stack.append(run.meaning.comes_to("." + row[1], (value,)))
    else:
        run.wrong()


def put_of_thing(run, frame, thing, name):
    if name in thing.fields:
        frame.stack.append(thing.fields[name])
    else:
        put_member(run, frame, thing.family, name, thing)


def put_member(run, frame, family, name, thing):
    """Put what a class has for a name, as a method if an object is given."""
    kind, told = run.built.member(family, name)
    if kind == "let":
        reckon_code(run, told)
    elif kind == "def":
        frame.stack.append(told if thing is None else Method(thing, told))
    else:
        run.wrong()


def put_of_space(run, frame, space, name):
    row = run.built.top_row(space.module, name)
    if row[0] == "const":
        frame.stack.append(row[1])
    elif row[0] == "let":
        reckon_code(run, row[1])
    else:
        run.wrong()


def put_method(run, frame, row):
    """Put the def that the class of an object has for a name, whatever the object's fields."""
    thing = frame.stack.pop()
    kind, told = run.built.member(thing.family, row[1])
    if kind == "def":
        frame.stack.append(Method(thing, told))
    else:
        run.wrong()


def put_operation(run, frame, row):
    values = taken(frame.stack, row[2])
    if all([is_plain(value) for value in values]):
        frame.stack.append(run.meaning.comes_to(row[1], values))
    else:
        run.wrong()


def call(run, frame, row):
    named = list(zip(row[2], taken(frame.stack, len(row[2]))))
    arguments = taken(frame.stack, row[1])
    called = frame.stack.pop()
    invoke(run, called, arguments, named, False)


def put_function(run, frame, row):
    defaults = dict(zip(row[2], taken(frame.stack, len(row[2]))))
    frame.stack.append(Function(row[1], frame.room, defaults))


def jump(run, frame, row):
    frame.at = row[1]


def jump_unless(run, frame, row):
    if not run.truth(frame.stack.pop()):
        frame.at = row[1]


def jump_if_given(run, frame, row):
    if row[1] in frame.room.names:
        frame.at = row[2]


def copy_value(run, frame, row):
    frame.stack.append(frame.stack[-1])


def swap_values(run, frame, row):
    frame.stack[-2:] = [frame.stack[-1], frame.stack[-2]]


def drop(run, frame, row):
    frame.stack.pop()


RECKONING = {
    "const": put_constant,
    "local": put_local,
    "let": reckon_let,
    "wrong": find_wrong,
    "tuple": put_tuple,
    "attr": put_attribute,
    "method": put_method,
    "op": put_operation,
    "call": call,
    "function": put_function,
    "jump": jump,
    "unless": jump_unless,
    "unless given": jump_if_given,
    "copy": copy_value,
    "swap": swap_values,
    "drop": drop,
}
