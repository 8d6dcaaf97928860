"""Runs done to their outcomes, step by step."""

from turnedparts.doing import DOING
from turnedparts.reckoning import RECKONING
from turnedparts.unwinding import unwind


def run_on(run):
    """Do a run until nothing is left to be done; its outcome."""
    run.outcome = None
    while run.frames:
        frame = run.frames[-1]
        if run.signal is None:
            row = frame.rows[frame.at]
            frame.at += 1
            step = RECKONING[row[0]] if row[0] in RECKONING else DOING[row[0]]
            step(run, frame, row)
        else:
            unwind(run, frame)
    return run.outcome
