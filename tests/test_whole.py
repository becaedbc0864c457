"""Point 3, over the whole program: what houses promise, seen from outside."""

import random
import unittest

from rule_samples import RULES, said
from samples import ORDINARY, random_plan
from warnloop.checker import holds
from warnloop.finding import agreeing, heard_with, told_place
from warnloop.house import House
from warnloop.journal import Journal
from warnloop.papers import paper_of
from warnloop.plans import devices, stretches
from warnloop.rules import says
from warnloop.tables import Runner, table_of
from warnloop.wires import Wires

MARKS = (5, 20, 10)
DELAYS = (0, 0, 0, 0)
SEEKERS = {spot: address for spot, kind, address in devices(ORDINARY) if kind == "seeker"}


def one_spoil_each(dice, share):
    """At most one number changed in each answer, or it lost."""
    told = []
    for number in range(20):
        if dice.random() < share and len(told) < 8:
            told.append((number, dice.randrange(5), dice.choice((-300, -257, -8, -1, 1, 2, 3, 7, 8, 257, 300))))
    return tuple(told)


def random_deed(dice):
    word = dice.choice(("cut", "short", "mend", "mend", "mend", "out", "in"))
    if word in ("cut", "short", "mend"):
        return (word, dice.choice(stretches(ORDINARY)))
    spot, kind, address = dice.choice(devices(ORDINARY))
    return (word, spot) if word == "out" else (word, spot, kind, address)


class LostAndBack(unittest.TestCase):
    def test_told_once_at_the_third_beat_and_back(self):
        found = {"lost": 0, "back": 0}
        for seed in range(40):
            dice, house, wires = random.Random(seed), House(ORDINARY, RULES, MARKS, DELAYS), Wires(ORDINARY)
            missed = {address: 0 for _, _, address in devices(ORDINARY)}
            for _ in range(60):
                if dice.random() < 0.3:
                    deed = random_deed(dice)
                    house.befall(deed)
                    self.lay(wires, deed)
                wires.come_to_rest()
                told = [event for event in house.beat((), (), (), 12) if event[0] in ("lost", "back")]
                self.assertEqual(told, self.due(wires, missed))
                for word, _ in told:
                    found[word] += 1
                self.assertEqual(house.lost(), sorted(one for one, many in missed.items() if many >= 3))
        self.assertGreater(min(found.values()), 20)

    def lay(self, wires, deed):
        word, where, *rest = deed
        done = {"cut": wires.cut, "short": wires.short, "mend": wires.mend, "out": wires.take_out, "in": wires.put_in}
        done[word](where, *rest)

    def due(self, wires, missed):
        """What must be told at this beat, by how many beats running each address was missed."""
        there = {spot: address for spot, _, address in wires.there()}
        heard = {there[spot] for loop in (0, 1) for end in "AB" for spot in wires.heard(loop, end)}
        events = []
        for address in sorted(missed):
            if address in heard:
                if missed[address] >= 3:
                    events.append(("back", address))
                missed[address] = 0
            else:
                missed[address] += 1
                if missed[address] == 3:
                    events.append(("lost", address))
        return events


class Warnings(unittest.TestCase):
    def test_calm_levels_never_warn_whatever_is_spoiled(self):
        for seed in range(40):
            dice, house = random.Random(seed), House(ORDINARY, RULES, MARKS, DELAYS)
            for _ in range(60):
                words = tuple((spot, dice.randint(30, 33)) for spot in SEEKERS)
                if dice.random() < 0.1:
                    house.befall(random_deed(dice))
                events = house.beat(words, one_spoil_each(dice, dice.choice((0.1, 0.5, 0.9))), (), dice.randrange(24))
                self.assertEqual([event for event in events if event[0] in ("first", "warning", "knob", "two")], [])
            self.assertEqual(house.warned(), ())

    def test_a_warning_names_three_askings_in_a_row_above_the_mark(self):
        found = 0
        for seed in range(60):
            dice, house = random.Random(seed), House(ORDINARY, RULES, MARKS, DELAYS)
            askings = {address: [] for address in SEEKERS.values()}
            for beat in range(60):
                # At least 20 above the base at high beats, so above the mark by day and by night.
                levels = {spot: 200 if dice.random() < 0.6 and beat > 3 else 30 for spot in SEEKERS}
                # At the first beats all are heard, so that each base is 30.
                lost = self.lost_answers(dice) if beat > 3 else ()
                events = house.beat(tuple(sorted(levels.items())), lost, (), dice.randrange(24))
                for spot, address in SEEKERS.items():
                    if not self.is_lost(spot, lost):
                        askings[address].append(levels[spot])
                for event in events:
                    if event[0] == "warning":
                        found += 1
                        one, two, three = event[2]
                        self.assertEqual((one + 1, two + 1), (two, three))
                        self.assertEqual(askings[event[1]][one:three + 1], [200] * 3)
                        self.assertEqual(len(askings[event[1]]), three + 1)
            for address in askings:
                runs = [askings[address][at:at + 3] == [200] * 3 for at in range(len(askings[address]))]
                self.assertEqual(address in house.warned(), any(runs))
        self.assertGreater(found, 150)

    def lost_answers(self, dice):
        """All answers of some devices lost, from both ends; nothing is cut, so the numbers are known."""
        spots = dice.sample(list(SEEKERS), 2)
        return tuple((number, 4, 0) for spot in sorted(spots) for number in self.numbers(spot))

    def numbers(self, spot):
        loops = [[one for one, _, _ in devices(ORDINARY) if one[0] == loop] for loop in (0, 1)]
        ahead = 2 * len(loops[0]) if spot[0] == 1 else 0
        at = loops[spot[0]].index(spot)
        return (ahead + at, ahead + len(loops[spot[0]]) + at)

    def is_lost(self, spot, spoils):
        return set(self.numbers(spot)) <= {number for number, _, _ in spoils}


class Bells(unittest.TestCase):
    def test_no_bell_that_is_wanted_is_still(self):
        for seed in range(40):
            dice, house = random.Random(seed), House(ORDINARY, RULES, MARKS, DELAYS)
            history, sounding = [], set()
            for _ in range(40):
                if dice.random() < 0.2:
                    house.befall(random_deed(dice))
                words = tuple((spot, dice.choice((0, 0, 0, 120))) for spot, _, _ in devices(ORDINARY))
                turned, hour = tuple(key for key in range(10) if dice.random() < 0.1), dice.randrange(24)
                house.beat(words, one_spoil_each(dice, 0.2), turned, hour)
                history.append((house.warned(), turned, hour))
                # Without a silence or a reset each that was ever wanted sounds on.
                sounding |= set(said(ORDINARY, RULES, history))
                self.assertEqual(house.sounded(), sorted(sounding))

    def test_rules_and_tables_say_the_same_in_a_house(self):
        for seed in range(10):
            dice, house = random.Random(seed), House(ORDINARY, RULES, MARKS, DELAYS)
            runner, history = Runner(table_of(ORDINARY, RULES)), []
            for _ in range(30):
                words = tuple((spot, dice.choice((0, 0, 0, 120))) for spot, _, _ in devices(ORDINARY))
                house.beat(words, (), (), 12)
                history.append((house.warned(), (), 12))
                self.assertEqual(runner.beat(*history[-1]), says(ORDINARY, RULES, history))
                if dice.random() < 0.2:
                    house.reset()


class Notes(unittest.TestCase):
    def test_a_houses_notes_are_a_journals(self):
        dice, house = random.Random(1), House(ORDINARY, RULES, MARKS, DELAYS)
        for _ in range(30):
            house.befall(random_deed(dice))
            house.beat((), one_spoil_each(dice, 0.3), (), 12)
        journal = Journal([])
        for note in house.notes():
            journal.write(note)
        cells = journal.cells()
        for cut in range(0, len(cells) + 1, 7):
            kept = Journal(cells[:cut]).notes()
            self.assertEqual(kept, house.notes()[:len(kept)])
        self.assertEqual(Journal(cells).notes(), house.notes())


class Faults(unittest.TestCase):
    def test_what_is_told_holds_the_true_one_and_each_device_has_its_paper(self):
        for seed in range(60):
            dice, plan = random.Random(seed), random_plan(seed)
            stretch, how = dice.choice(stretches(plan)), dice.choice(("cut", "short"))
            fault = (stretch, how)
            heard = heard_with(plan, stretch[0], (fault,))
            self.assertIn((fault,), agreeing(plan, stretch[0], *heard, 1))
            told = told_place(plan, stretch[0], *heard)
            self.assertTrue(told == ("whole",) or fault in told[1])
            for spot, _, _ in devices(plan):
                claim, paper = paper_of(plan, (fault,), spot)
                self.assertTrue(holds(claim, paper))
                ends = [spot in part for part in heard] if spot[0] == stretch[0] else [True]
                self.assertEqual(claim[0] == "heard", any(ends))


if __name__ == "__main__":
    unittest.main()
