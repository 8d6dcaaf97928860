"""[5] Programs by chance: both ways of doing them see the same."""

import unittest

from chance import program_by_chance
from model import Model, Stopped
from turnedparts.errors import Handed, Ring, TooLarge
from turnedparts.outside import seen, uses


def outcome(program, use, world):
    try:
        return seen(program, use, world)
    except Ring as error:
        return ("ring", error.module, error.number)
    except Handed as error:
        return ("handed", error.kind)


def other_outcome(program, use, world):
    try:
        return Model(program, world).seen(use)
    except Stopped as error:
        return error.args


class Against(unittest.TestCase):
    def test_programs_by_chance(self):
        tried = 0
        for seed in range(250):
            program, chance = program_by_chance(seed)
            if program is None:
                continue
            try:
                rows = uses(program)
            except TooLarge:
                continue
            chance.random.shuffle(rows)
            for use in rows[:20]:
                world = chance.world()
                self.assertEqual(outcome(program, use, world), other_outcome(program, use, world), (seed, use))
                tried += 1
        self.assertGreater(tried, 1000)


if __name__ == "__main__":
    unittest.main()
