"""Points 15 to 17: a seeker's askings, its warnings, its base."""

import random
import unittest

from warnloop.levels import Seeker


def asked(seeker, levels, night=False):
    """What each of these levels tells, asked one behind another."""
    return [seeker.ask(level, night) for level in levels]


def all_of(seeker, levels, night=False):
    return [event for events in asked(seeker, levels, night) for event in events]


class First(unittest.TestCase):
    def test_just_below_at_and_above(self):
        for first in (1, 10, 200):
            for rise in (first - 1, first, first + 1):
                seeker = Seeker((first, 200, 200))
                told = [event for event in all_of(seeker, (7, 7 + rise)) if event[0] == "first"]
                self.assertEqual(told, [("first", 1)] if rise >= first else [])

    def test_the_first_asking_tells_none(self):
        for level in (0, 1, 99, 255):
            told = Seeker((1, 1, 1)).ask(level, True)
            self.assertEqual([event for event in told if event[0] != "dirt"], [])

    def test_none_again_until_it_falls_below_first(self):
        seeker = Seeker((5, 50, 50))
        self.assertEqual(asked(seeker, (0, 5, 6, 40, 5, 4, 5, 0, 5)), [
            [], [("first", 1)], [], [], [], [], [("first", 6)], [], [("first", 8)],
        ])

    def test_first_is_the_same_by_night(self):
        for night in (False, True):
            seeker = Seeker((5, 50, 60))
            self.assertEqual(asked(seeker, (0, 4, 5), night), [[], [], [("first", 2)]])

    def test_a_first_word_while_it_is_warned(self):
        seeker = Seeker((5, 5, 5))
        self.assertEqual(asked(seeker, (0, 9, 9)), [[], [("first", 1)], []])
        seeker.reset()
        self.assertEqual(asked(seeker, (9, 9, 9, 0)), [[], [], [("warning", (3, 4, 5))], []])
        self.assertEqual(asked(seeker, (9, 9, 9)), [[("first", 7)], [], []])

    def test_a_reset_leaves_the_first_word(self):
        seeker = Seeker((5, 50, 50))
        asked(seeker, (0, 5))
        seeker.reset()
        self.assertEqual(asked(seeker, (5, 5, 4, 5)), [[], [], [], [("first", 5)]])


class Warnings(unittest.TestCase):
    def test_three_in_a_row_just_at_the_mark(self):
        for mark in (1, 10, 200):
            seeker = Seeker((1, mark, mark))
            self.assertEqual(asked(seeker, [0] + [mark] * 4), [
                [], [("first", 1)], [], [("warning", (1, 2, 3))], [],
            ])
            self.assertIs(seeker.warned(), True)

    def test_just_below_the_mark(self):
        for mark in (10, 200):
            for at in range(3):
                levels = [mark, mark, mark]
                levels[at] -= 1
                seeker = Seeker((1, mark, mark))
                self.assertEqual(all_of(seeker, [0] + levels), [("first", 1)])
                self.assertIs(seeker.warned(), False)

    def test_by_day_and_by_night(self):
        for day, night in ((20, 10), (10, 20)):
            for dark in (False, True):
                mark = night if dark else day
                seeker = Seeker((5, day, night))
                self.assertEqual(all_of(seeker, [0] + [mark - 1] * 5, dark), [("first", 1)])
                self.assertEqual(all_of(seeker, [mark] * 3, dark), [("warning", (6, 7, 8))])

    def test_nights_that_change_within_three_askings(self):
        for nights in range(8):
            row = [bool(nights >> bit & 1) for bit in range(3)]
            seeker = Seeker((1, 20, 10))
            seeker.ask(0, False)
            told = [seeker.ask(10 if night else 20, night) for night in row]
            self.assertEqual(told, [[("first", 1)], [], [("warning", (1, 2, 3))]])
            other = Seeker((1, 20, 10))
            other.ask(0, False)
            told = [other.ask(15, night) for night in row]
            warning = [("warning", (1, 2, 3))] if all(row) else []
            self.assertEqual(told, [[("first", 1)], [], warning])

    def test_a_row_is_broken_by_one_below(self):
        seeker = Seeker((1, 10, 10))
        self.assertEqual(all_of(seeker, (0, 10, 10, 9, 10, 10, 9, 10, 10)), [("first", 1)])
        self.assertEqual(seeker.ask(10, False), [("warning", (7, 8, 9))])

    def test_none_more_until_a_reset(self):
        seeker = Seeker((1, 10, 10))
        self.assertEqual(all_of(seeker, [0] + [10] * 3), [("first", 1), ("warning", (1, 2, 3))])
        self.assertEqual(all_of(seeker, [10] * 10 + [0] + [10] * 5), [("first", 15)])
        self.assertIs(seeker.warned(), True)

    def test_three_in_a_row_begin_anew_behind_a_reset(self):
        for ahead in range(1, 7):
            seeker = Seeker((1, 10, 10))
            asked(seeker, [0] + [10] * ahead)
            self.assertIs(seeker.warned(), ahead >= 3)
            self.assertIsNone(seeker.reset())
            self.assertIs(seeker.warned(), False)
            self.assertEqual(asked(seeker, [10, 10]), [[], []])
            self.assertIs(seeker.warned(), False)
            self.assertEqual(seeker.ask(10, False), [("warning", (ahead + 1, ahead + 2, ahead + 3))])
            self.assertIs(seeker.warned(), True)

    def test_warned_from_its_warning_on(self):
        seeker = Seeker((1, 10, 10))
        self.assertIs(seeker.warned(), False)
        told = []
        for level in (0, 10, 10, 10, 0, 0):
            seeker.ask(level, False)
            told.append(seeker.warned())
        self.assertEqual(told, [False, False, False, True, True, True])

    def test_the_rise_is_above_the_base(self):
        seeker = Seeker((1, 10, 10))
        self.assertEqual(all_of(seeker, (50, 59, 59, 59, 59)), [("first", 1)])
        self.assertEqual(all_of(seeker, (60, 60, 60)), [("warning", (5, 6, 7))])

    def test_levels_far_below_the_base(self):
        seeker = Seeker((1, 10, 10))
        self.assertEqual(all_of(seeker, (255, 0, 0, 0, 0)), [("dirt", 255)])
        self.assertEqual(seeker.base(), 254)

    def test_many_resets(self):
        seeker = Seeker((1, 1, 1))
        seeker.reset()
        self.assertEqual((seeker.base(), seeker.warned()), (None, False))
        seeker.ask(0, False)
        for _ in range(3):
            told = all_of(seeker, (1, 1, 1, 1))
            self.assertEqual([event[0] for event in told if event[0] == "warning"], ["warning"])
            seeker.reset()
            seeker.reset()


class Base(unittest.TestCase):
    def bases(self, seeker, levels, night=False):
        told = []
        for level in levels:
            seeker.ask(level, night)
            told.append(seeker.base())
        return told

    def test_none_then_the_first_level(self):
        for level in (0, 7, 255):
            seeker = Seeker((5, 9, 9))
            self.assertIsNone(seeker.base())
            seeker.ask(level, False)
            self.assertEqual(seeker.base(), level)

    def test_up_and_down_at_each_fourth_calm_asking(self):
        seeker = Seeker((5, 9, 9))
        self.assertEqual(self.bases(seeker, [10] + [12] * 8), [10, 10, 10, 11, 11, 11, 11, 12, 12])
        self.assertEqual(self.bases(seeker, [12] * 3), [12] * 3)
        self.assertEqual(self.bases(seeker, [3] * 9), [12, 12, 12, 11, 11, 11, 11, 10, 10])

    def test_the_fourth_level_alone_says_which_way(self):
        for last, base in ((14, 11), (11, 11), (10, 10), (9, 9), (0, 9)):
            seeker = Seeker((5, 9, 9))
            self.assertEqual(self.bases(seeker, (10, 0, 14, last)), [10, 10, 10, base])

    def test_counted_anew_where_it_does_not_move_too(self):
        seeker = Seeker((5, 9, 9))
        self.assertEqual(self.bases(seeker, [10] * 4 + [12] * 4), [10] * 7 + [11])

    def test_counted_anew_behind_one_that_is_not_calm(self):
        for ahead in range(1, 4):
            seeker = Seeker((5, 9, 9))
            self.assertEqual(self.bases(seeker, [10] * ahead + [15]), [10] * (ahead + 1))
            self.assertEqual(self.bases(seeker, [14] * 4), [10, 10, 10, 11])

    def test_calm_is_below_first(self):
        seeker = Seeker((5, 9, 9))
        self.assertEqual(self.bases(seeker, [10] + [15] * 12), [10] * 13)
        self.assertEqual(self.bases(seeker, [14] * 4), [10, 10, 10, 11])

    def test_a_level_that_is_calm_behind_the_move(self):
        seeker = Seeker((5, 200, 200))
        self.assertEqual(self.bases(seeker, [10] + [14] * 3), [10, 10, 10, 11])
        self.assertEqual(seeker.ask(15, False), [])
        self.assertEqual(seeker.ask(16, False), [("first", 5)])

    def test_the_rise_is_reckoned_ahead_of_the_move(self):
        seeker = Seeker((2, 2, 2))
        self.assertEqual(all_of(seeker, (10, 9, 9, 9)), [])
        self.assertEqual(seeker.base(), 9)
        self.assertEqual(all_of(seeker, (11, 11, 11)), [("first", 4), ("warning", (4, 5, 6))])

    def test_a_reset_leaves_the_base_and_its_count(self):
        seeker = Seeker((5, 9, 9))
        asked(seeker, (10, 12, 12))
        seeker.reset()
        self.assertEqual(seeker.base(), 10)
        self.assertEqual(self.bases(seeker, (12,)), [11])

    def test_a_reset_leaves_the_numbers(self):
        seeker = Seeker((1, 10, 10))
        asked(seeker, (0, 0, 0))
        seeker.reset()
        self.assertEqual(all_of(seeker, (10, 10, 10)), [("first", 3), ("warning", (3, 4, 5))])

    def test_nights_do_not_change_what_is_calm(self):
        for night in (False, True):
            seeker = Seeker((5, 9, 60))
            self.assertEqual(self.bases(seeker, [10] + [14] * 3, night), [10, 10, 10, 11])


class Dirt(unittest.TestCase):
    def test_where_the_base_begins_so(self):
        for level, told in ((99, []), (100, [("dirt", 100)]), (101, [("dirt", 101)]), (255, [("dirt", 255)])):
            seeker = Seeker((5, 9, 9))
            self.assertEqual(seeker.ask(level, False), told)
            self.assertEqual(asked(seeker, [level] * 9), [[]] * 9)

    def test_where_the_base_comes_to_it(self):
        seeker = Seeker((5, 9, 9))
        self.assertEqual(asked(seeker, [99] + [101] * 8), [[], [], [], [("dirt", 100)], [], [], [], [], []])
        self.assertEqual(seeker.base(), 101)

    def test_just_short_of_it(self):
        seeker = Seeker((5, 9, 9))
        self.assertEqual(all_of(seeker, [98] + [99] * 40), [])

    def test_again_behind_a_fall(self):
        seeker = Seeker((5, 9, 9))
        self.assertEqual(all_of(seeker, [100] + [99] * 3), [("dirt", 100)])
        self.assertEqual(seeker.base(), 99)
        self.assertEqual(asked(seeker, [103] * 4), [[], [], [], [("dirt", 100)]])

    def test_a_fall_that_stays_at_it_tells_none(self):
        seeker = Seeker((5, 9, 9))
        self.assertEqual(all_of(seeker, [102] + [90] * 7), [("dirt", 102)])
        self.assertEqual(seeker.base(), 100)

    def test_a_reset_tells_no_dirt_anew(self):
        seeker = Seeker((5, 9, 9))
        seeker.ask(150, False)
        seeker.reset()
        self.assertEqual(asked(seeker, [150] * 5), [[]] * 5)


class OwnThings(unittest.TestCase):
    def test_what_is_told_is_the_askers_own(self):
        seeker = Seeker((1, 1, 1))
        seeker.ask(0, False)
        told = seeker.ask(1, False)
        kept = list(told)
        told.append("more")
        self.assertEqual(seeker.ask(1, False), [])
        self.assertEqual(kept, [("first", 1)])
        told.clear()
        self.assertEqual(seeker.ask(1, False), [("warning", (1, 2, 3))])

    def test_two_seekers_share_nothing(self):
        marks = (1, 2, 3)
        one, other = Seeker(marks), Seeker(marks)
        asked(one, (9, 99, 99, 99))
        self.assertEqual((one.warned(), one.base()), (True, 9))
        self.assertEqual((other.warned(), other.base()), (False, None))
        self.assertEqual(other.ask(150, True), [("dirt", 150)])
        one.reset()
        self.assertEqual((one.base(), other.base()), (9, 150))


class Histories(unittest.TestCase):
    """A seeker against a reckoning from all that was done to it so far."""

    def bases(self, first, asks):
        """The base ahead of each asking, and behind the last."""
        told = [asks[0][0]]
        calm = 0
        for level, _ in asks:
            base = told[-1]
            calm = calm + 1 if level - base < first else 0
            step = (level > base) - (level < base) if calm and calm % 4 == 0 else 0
            told.append(base + step)
        return told

    def above(self, marks, asks):
        bases = self.bases(marks[0], asks)
        return [level - base >= marks[2 if night else 1] for (level, night), base in zip(asks, bases)]

    def warnings(self, marks, asks, resets):
        """The numbers of the askings that warn; resets are the numbers of the askings that they stand ahead of."""
        above = self.above(marks, asks)
        found = []
        for at in range(len(asks)):
            since = max([0] + [reset for reset in resets if reset <= at])
            if at - 2 >= since and all(above[at - 2:at + 1]) and not [one for one in found if one >= since]:
                found.append(at)
        return found

    def events(self, marks, asks, resets):
        """What the last asking tells."""
        bases = self.bases(marks[0], asks)
        at = len(asks) - 1
        risen = [level - base >= marks[0] for (level, _), base in zip(asks, bases)]
        told = [("first", at)] if risen[at] and at and not risen[at - 1] else []
        if at in self.warnings(marks, asks, resets):
            told.append(("warning", (at - 2, at - 1, at)))
        if bases[-1] >= 100 and (at == 0 or bases[-2] < 100):
            told.append(("dirt", bases[-1]))
        return told

    def test_seeded_histories(self):
        for seed in range(120):
            dice = random.Random(seed)
            others = sorted([dice.choice((1, 2, 5, 9, 200)) for _ in range(3)])
            marks = (others[0], others[1], others[2]) if dice.random() < 0.5 else (others[0], others[2], others[1])
            seeker = Seeker(marks)
            middle = dice.choice((3, 50, 97, 100, 250))
            asks, resets = [], []
            for number in range(50):
                if dice.random() < 0.1:
                    seeker.reset()
                    resets.append(number)
                level = min(255, max(0, middle + dice.choice((-3, -1, 0, 1, 2, 4, 9, 9, 10, 11, 200))))
                asks.append((level, dice.random() < 0.5))
                self.assertEqual(seeker.ask(*asks[-1]), self.events(marks, asks, resets))
                self.assertEqual(seeker.base(), self.bases(marks[0], asks)[-1])
                warnings = self.warnings(marks, asks, resets)
                warned = bool([at for at in warnings if at >= max([0] + resets)])
                self.assertIs(seeker.warned(), warned)


if __name__ == "__main__":
    unittest.main()
