"""Point 3: warnings come of what was truly answered alone, whatever befalls it on the wire."""

import random
import unittest

from warnloop.frames import frame
from warnloop.levels import Seeker
from warnloop.talk import Talk

MARKS = (5, 12, 9)


class Wire:
    """Loses frames, doubles them, brings them late by one to seven beats, or changes one number in them."""

    def __init__(self, dice, ill):
        self.dice = dice
        self.ill = ill
        self.late = []

    def carry(self, frames):
        carried = [told for wait, told in self.late if wait == 0]
        self.late = [(wait - 1, told) for wait, told in self.late if wait > 0]
        for told in frames:
            carried.extend(self.befall(told))
        self.dice.shuffle(carried)
        return carried

    def befall(self, told):
        if self.dice.random() >= self.ill:
            return [told]
        how = self.dice.choice(("lost", "doubled", "late", "doubled late", "changed", "doubled changed"))
        if how == "lost":
            return []
        if how == "doubled":
            return [told] * self.dice.randint(2, 4)
        if "late" in how:
            self.late.append((self.dice.randrange(7), told))
            return [told] if "doubled" in how else []
        at = self.dice.randrange(4)
        number = told[at] + self.dice.choice((-257, -8, -1, 1, 2, 8, 40, 200, 257))
        changed = told[:at] + (number,) + told[at + 1:]
        return [changed, told] if "doubled" in how else [changed]


class OverAnIllWire(unittest.TestCase):
    def run_beats(self, seed, levels):
        """What is told by each seeker over an ill wire, as (levels asked, warnings)."""
        dice = random.Random(seed)
        addresses = tuple(sorted(dice.sample(range(1, 100), 4)))
        talk, wire = Talk(addresses), Wire(dice, dice.choice((0.2, 0.5, 0.9)))
        seekers = {address: Seeker(MARKS) for address in addresses}
        told = {address: ([], []) for address in addresses}
        for number in range(120):
            true = {address: levels(dice, number) for address in addresses}
            talk.beat(wire.carry([frame(address, talk.turn(), true[address]) for address in addresses]))
            for address in talk.heard_now():
                self.assertEqual(talk.word_of(address), true[address])
                events = seekers[address].ask(talk.word_of(address), False)
                told[address][0].append(true[address])
                told[address][1].extend([event for event in events if event[0] == "warning"])
        return list(told.values())

    def test_calm_levels_never_warn(self):
        for seed in range(40):
            for levels, warnings in self.run_beats(seed, lambda dice, _: dice.randint(20, 24)):
                self.assertTrue(levels)
                self.assertEqual(warnings, [])

    def test_two_above_in_a_row_never_warn(self):
        for seed in range(40):
            def levels(dice, number):
                return 40 if number % 60 in (30, 31) else 20

            for asked, warnings in self.run_beats(seed, levels):
                self.assertEqual(warnings, [])

    def test_a_warning_names_three_in_a_row_that_are_above(self):
        found = 0
        for seed in range(40):
            for levels, warnings in self.run_beats(seed, lambda dice, number: 60 if number > 60 else 20):
                self.assertLessEqual(len(warnings), 1)
                for word, (one, two, three) in warnings:
                    found += 1
                    self.assertEqual((two, three), (one + 1, one + 2))
                    self.assertEqual(levels[one:three + 1], [60, 60, 60])
                    self.assertNotIn([60, 60, 60], [levels[at:at + 3] for at in range(one)])
        self.assertGreater(found, 100)


if __name__ == "__main__":
    unittest.main()
