"""[8], [9] Programs by chance, and those with a statement taken away, exchanged or put elsewhere: judged in two ways."""

import random
import unittest

import plain
from chance import program_by_chance
from model import Model
from tame import tame_program
from turnedparts.alikes import judge
from turnedparts.errors import Handed, Ring, TooLarge
from turnedparts.outside import uses
from turnedparts.programs import is_program


def outcome(one, other):
    try:
        found = judge(one, other)
    except Ring as error:
        return ("ring", error.module, error.number), None
    except Handed as error:
        return ("handed", error.kind), None
    except TooLarge:
        return ("large",), None
    return (("alike", found.trees) if found else ("unlike", found.use, found.place)), found


def changed(block, chance):
    """A block with a change somewhere."""
    block = list(block)
    if not block:
        return ()
    at = chance.randrange(len(block))
    statement = block[at]
    if statement[0] in ("def", "class", "for", "each", "with") and chance.random() < 0.85:
        block[at] = (*statement[:3], changed(statement[3], chance) or (("pass",),))
    elif statement[0] == "if" and chance.random() < 0.6:
        block[at] = (*statement[:2], changed(statement[2], chance) or (("pass",),), changed(statement[3], chance))
    elif statement[0] == "try" and chance.random() < 0.6:
        block[at] = ("try", changed(statement[1], chance) or (("pass",),), *statement[2:])
    elif chance.random() < 0.4:
        del block[at]
    elif chance.random() < 0.6:
        other = chance.randrange(len(block))
        block[at], block[other] = block[other], block[at]
    else:
        block.insert(at, chance.choice(block))
    return tuple(block)


class Against(unittest.TestCase):
    def compare(self, one, other, counts):
        found, evidence = outcome(one, other)
        expected = plain.judged(one, other)
        self.assertEqual(found, expected[:3])
        counts[found[0]] = counts.get(found[0], 0) + 1
        if evidence is not None:
            self.assertTrue(evidence.shows(one, other))
        if found[0] == "unlike":
            rows = [Model(program, evidence.world).seen(evidence.use) for program in (one, other)]
            self.assertEqual(rows[0][:evidence.place], rows[1][:evidence.place])
            self.assertNotEqual(rows[0][evidence.place:][:1], rows[1][evidence.place:][:1])

    def several(self, programs, seed, many):
        chance = random.Random(seed)
        counts = {}
        for program in programs:
            if program is None:
                continue
            try:
                uses(program)
                self.compare(program, program, counts)
                for _ in range(many):
                    module = chance.choice(sorted(program))
                    other = {**program, module: changed(program[module], chance)}
                    if is_program(other):
                        uses(program, other)
                        self.compare(program, other, counts)
                        self.compare(other, program, counts)
            except TooLarge:
                continue
        return counts

    def test_sensible_programs(self):
        counts = self.several([tame_program(seed) for seed in range(36)], 3, 5)
        self.assertGreater(counts["alike"], 60)
        self.assertGreater(counts["unlike"], 60)

    def test_wild_programs(self):
        counts = self.several([program_by_chance(seed)[0] for seed in range(40)], 4, 3)
        for word in ("alike", "ring", "handed"):
            self.assertGreater(counts[word], 5)


if __name__ == "__main__":
    unittest.main()
