"""The steps that do statements."""

from turnedparts.calls import invoke
from turnedparts.errors import Handed
from turnedparts.reckoning import room_of
from turnedparts.values import NONE, Thing, Walk, can_be_kept, is_plain


def give(run, frame, row):
    room = room_of(frame, row[1])
    room.names[row[2]] = frame.stack.pop()


def unpack(run, frame, row):
    """Put the parts of a tuple on the stack, the first one last."""
    value = frame.stack.pop()
    if isinstance(value, tuple) and value[0] == "tuple" and len(value[1]) == row[1]:
        frame.stack.extend(list(reversed(value[1])))
    else:
        run.wrong()


def set_field(run, frame, row):
    thing = frame.stack.pop()
    value = frame.stack.pop()
    if isinstance(thing, Thing) and can_be_kept(value):
        thing.fields[row[1]] = value
    else:
        run.wrong()


def put_items(run, frame, row):
    """Put a list of the items of a for on the stack, the first one last in it."""
    at = len(frame.stack) - row[1]
    items = list(reversed(frame.stack[at:]))
    del frame.stack[at:]
    frame.stack.append(items)


def put_item(run, frame, row):
    items = frame.stack[-1]
    if items:
        frame.stack.append(items.pop())
    else:
        frame.stack.pop()
        frame.at = row[1]


def see(run, frame, row):
    value = frame.stack.pop()
    if not is_plain(value):
        raise Handed("see")
    run.events.append(("see", value))


def mark_as_done(run, frame, row):
    run.built.marked[row[1]] = True


def leave_by_return(run, frame, row):
    run.signal = ("return", frame.stack.pop())


def leave_by_raise(run, frame, row):
    run.signal = ("raise", row[1], frame.stack.pop())


def wait_at_begin(run, frame, row):
    """Leave the frame of a function that yields, once it has its arguments, for a generator."""
    run.take_frame()
    frame.walk = Walk(frame)
    if not frame.is_quiet:
        run.hand_over(frame.walk)


def wait_at_yield(run, frame, row):
    value = frame.stack.pop()
    if frame.walk.is_closing:
        run.wrong()
        return
    run.take_frame()
    run.hand_over(value)


def begin_each(run, frame, row):
    value = frame.stack.pop()
    if isinstance(value, Walk) and (value.is_done or not value.is_busy):
        frame.blocks.append(("each", value, row[1], len(frame.stack)))
    else:
        run.wrong()


def go_on(run, frame, row):
    """Go on in the generator of an each, or behind the each, if it is done."""
    walk = frame.blocks[-1][1]
    if walk.is_done:
        frame.blocks.pop()
        frame.at = row[1]
    else:
        run.resume(walk)


def begin_try(run, frame, row):
    frame.blocks.append(("try", row[1], row[2], len(frame.stack)))


def leave_block(run, frame, row):
    frame.blocks.pop()


def put_nothing(run, frame, row):
    """Put by that no signal is to go on."""
    frame.stack.append(None)


def signal_on(run, frame, row):
    """Let the signal that was put by go on."""
    run.signal = frame.stack.pop()


def need_thing(run, frame, row):
    if not isinstance(frame.stack[-1], Thing):
        run.wrong()


def begin_with(run, frame, row):
    function = frame.stack.pop()
    frame.blocks.append(("with", function, row[1], len(frame.stack)))


def leave_with(run, frame, row):
    block = frame.blocks.pop()
    frame.stack.append(None)
    invoke(run, block[1], (NONE,), [], True)


DOING = {
    "give": give,
    "unpack": unpack,
    "set": set_field,
    "items": put_items,
    "item": put_item,
    "see": see,
    "mark": mark_as_done,
    "return": leave_by_return,
    "raise": leave_by_raise,
    "wait": wait_at_begin,
    "yield": wait_at_yield,
    "each": begin_each,
    "go": go_on,
    "try": begin_try,
    "leave block": leave_block,
    "nothing": put_nothing,
    "on": signal_on,
    "thing": need_thing,
    "with": begin_with,
    "leave with": leave_with,
}
