"""The frames in which codes are done, and how they are left.

A signal is what leaves blocks and frames: ("return", value), ("raise", kind, value), or
("close",) for a generator that is closed.
"""

from turnedparts.blocks import make_rows
from turnedparts.errors import Ring
from turnedparts.values import NONE

WRONG = ("raise", "wrong", ("none",))
CLOSE = ("close",)


class Frame:
    """A code that is being done: its next row, its values, and the blocks that it is in."""

    def __init__(self, code, room, is_quiet):
        self.code = code
        self.room = room
        # What a quiet frame returns does not matter.
        self.is_quiet = is_quiet
        self.rows = code.rows
        self.at = 0
        self.stack = []
        self.blocks = []
        self.walk = None


class Run:
    """A program that is being done under a meaning, with the events that are seen."""

    def __init__(self, built, meaning):
        self.built = built
        self.meaning = meaning
        self.events = []
        self.frames = []
        self.active = {}
        self.signal = None
        self.outcome = None

    def push(self, frame):
        """Do a frame next."""
        self.frames.append(frame)
        self.active[frame.code.mark] = True

    def begin(self, code, room, is_quiet):
        """Do a code in a new frame next."""
        if code.rows is None:
            code.rows = make_rows(self.built, code)
        self.push(Frame(code, room, is_quiet))

    def take_frame(self):
        """Do nothing more in the last frame; that frame."""
        frame = self.frames.pop()
        del self.active[frame.code.mark]
        return frame

    def is_active(self, code):
        """Whether a code is being done."""
        return code.mark in self.active

    def see_no_ring(self, code):
        """Raise Ring, if a code is being done."""
        if code.mark in self.active:
            raise Ring(code.module, code.number)

    def wrong(self):
        """Raise wrong in what is being done."""
        self.signal = WRONG

    def hand_over(self, value):
        """Give a value to the frame that is last now, or to outside."""
        if self.frames:
            self.frames[-1].stack.append(value)
        else:
            self.outcome = ("return", value)

    def resume(self, walk):
        """Go on in a generator."""
        self.see_no_ring(walk.frame.code)
        walk.is_busy = True
        self.push(walk.frame)

    def close(self, walk):
        """Close a generator that waits at a yield."""
        walk.is_closing = True
        self.resume(walk)
        self.signal = CLOSE

    def truth(self, value):
        """Whether a value is true."""
        if not isinstance(value, tuple):
            return True
        if value[0] == "number":
            return self.meaning.holds(value[1])
        return value != NONE and len(value[1]) > 0

    def leave_frame(self):
        """Let the signal leave the last frame."""
        frame = self.take_frame()
        signal = self.signal
        walk = frame.walk
        if walk is not None:
            walk.is_done = True
        if not self.frames:
            self.outcome = signal
            self.signal = None
        elif signal[0] != "raise":
            self.signal = None
            self.come_back(frame, signal)

    def come_back(self, frame, signal):
        """Go on in the last frame, behind what a frame was done for."""
        last = self.frames[-1]
        if frame.walk is None:
            if not frame.is_quiet:
                last.stack.append(signal[1])
        elif not frame.walk.is_closing:
            # The row that goes on is done again, and finds the generator done.
            last.at -= 1
