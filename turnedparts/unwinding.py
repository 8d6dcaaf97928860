"""How a signal leaves the blocks of a frame."""

from turnedparts.calls import invoke
from turnedparts.values import NONE


def unwind(run, frame):
    """Let the signal leave the innermost block of the last frame, or the frame."""
    if not frame.blocks:
        run.leave_frame()
        return
    block = frame.blocks.pop()
    leave_block = BLOCKS[block[0]]
    leave_block(run, frame, block)


def leave_try(run, frame, block):
    """Go on in the first handler that takes the signal, or in the last block."""
    _, handlers, last, height = block
    if run.signal[0] == "raise":
        for kind, at in handlers:
            if kind == run.signal[1] or kind == "any":
                del frame.stack[height:]
                frame.stack.append(run.signal[2])
                if last is not None:
                    frame.blocks.append(("last", last, height))
                frame.at = at
                run.signal = None
                return
    if last is not None:
        wait_with_signal(run, frame, height, last)


def leave_handler(run, frame, block):
    wait_with_signal(run, frame, block[2], block[1])


def wait_with_signal(run, frame, height, at):
    """Put the signal by, and go on at a row; a row behind this takes it up again."""
    del frame.stack[height:]
    frame.stack.append(run.signal)
    frame.at = at
    run.signal = None


def leave_with(run, frame, block):
    """Call what the object of a with has for leave; the signal goes on behind this."""
    _, function, at, height = block
    told = ("text", run.signal[1]) if run.signal[0] == "raise" else NONE
    wait_with_signal(run, frame, height, at)
    invoke(run, function, (told,), [], True)


def leave_each(run, frame, block):
    """Close the generator, if it waits at a yield; the signal goes on behind this."""
    _, walk, at, height = block
    if not walk.is_done:
        wait_with_signal(run, frame, height, at)
        run.close(walk)


BLOCKS = {"try": leave_try, "last": leave_handler, "with": leave_with, "each": leave_each}
