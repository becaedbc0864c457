"""Points 3, 31, 32, 33: panels in a ring, their logs, and logs joined."""

import copy
import itertools
import random
import unittest

from samples import ODD_THINGS, nested
from warnloop.errors import HouseError, NoLink, NoLog, NoPanel, NoText
from warnloop.panels import Ring, joined

NO_TEXTS = [thing for thing in ODD_THINGS if not isinstance(thing, str)] + [
    "", "x" * 21, "a%", "%", "a\nb", "\n", "a\t", "\t", "\x7f", "\x1f", "\u00e9", ("text",), ["text"], nested(12, "a"),
]
TEXTS = ["x", " ", "~", "x" * 20, " " * 20, "!\"#$&'()*+,-./0123", "lost 12", "\\"]


def no_numbers(many):
    """Things that are no number of a panel or a link of so many."""
    return [thing for thing in ODD_THINGS if thing not in range(many) or isinstance(thing, bool)] + [
        -1, many, many + 1, 10 ** 5000, -(10 ** 5000), [0], (0,), "0", True, False, None, (0, 1), nested(12, 0),
    ]


def all_told(ring, many):
    return ([ring.log_of(panel) for panel in range(many)], ring.houses())


def refusal(deed, *things):
    try:
        deed(*things)
    except HouseError as error:
        return error.__class__
    return None


class Written(unittest.TestCase):
    def test_at_first(self):
        for many in (2, 3, 4):
            self.assertEqual(all_told(Ring(many), many), ([[]] * many, [list(range(many))]))

    def test_stamps_and_numbers_at_one_panel(self):
        ring = Ring(2)
        entries = [ring.write(1, text) for text in TEXTS]
        self.assertEqual(entries, [(at, 1, at, text) for at, text in enumerate(TEXTS)])
        self.assertEqual(all_told(ring, 2), ([[], entries], [[0, 1]]))

    def test_the_same_text_again(self):
        ring = Ring(3)
        self.assertEqual([ring.write(2, "same") for _ in range(3)],
                         [(0, 2, 0, "same"), (1, 2, 1, "same"), (2, 2, 2, "same")])
        self.assertEqual(ring.write(0, "same"), (0, 0, 0, "same"))

    def test_stamps_go_on_behind_what_was_handed_over(self):
        ring = Ring(2)
        for text in "abc":
            ring.write(0, text)
        self.assertEqual(ring.write(1, "d"), (0, 1, 0, "d"))
        ring.beat()
        self.assertEqual(ring.write(1, "e"), (3, 1, 1, "e"))
        self.assertEqual(ring.write(0, "f"), (3, 0, 3, "f"))
        ring.beat()
        self.assertEqual(ring.write(0, "g"), (4, 0, 4, "g"))
        self.assertEqual(ring.write(0, "h"), (5, 0, 5, "h"))
        ring.beat()
        for panel in (0, 1):
            self.assertEqual(ring.log_of(panel), [
                (0, 0, 0, "a"), (0, 1, 0, "d"), (1, 0, 1, "b"), (2, 0, 2, "c"), (3, 0, 3, "f"), (3, 1, 1, "e"),
                (4, 0, 4, "g"), (5, 0, 5, "h"),
            ])

    def test_sixty(self):
        ring = Ring(4)
        for number in range(60):
            ring.write(number % 4, f"note {number}")
            if number % 7 == 0:
                ring.beat()
        for _ in range(3):
            ring.beat()
        logs = [ring.log_of(panel) for panel in range(4)]
        self.assertEqual([len(log) for log in logs], [60] * 4)
        self.assertEqual(logs, [sorted(logs[0])] * 4)


class Links(unittest.TestCase):
    def test_what_is_handed_over_is_what_was_ahead(self):
        ring = Ring(4)
        ring.cut(3)
        entry = ring.write(0, "a")
        for beats in range(1, 5):
            self.assertIsNone(ring.beat())
            have = [panel for panel in range(4) if ring.log_of(panel) == [entry]]
            self.assertEqual(have, list(range(min(beats, 3) + 1)))

    def test_both_ways_round(self):
        for many in (3, 4):
            for panel in range(many):
                ring = Ring(many)
                entry = ring.write(panel, "a")
                ring.beat()
                near = {panel, (panel + 1) % many, (panel - 1) % many}
                self.assertEqual({one for one in range(many) if ring.log_of(one) == [entry]}, near)

    def test_each_hands_over_to_each(self):
        ring = Ring(2)
        entries = [ring.write(0, "a"), ring.write(1, "b")]
        ring.beat()
        self.assertEqual([ring.log_of(0), ring.log_of(1)], [entries, entries])

    def test_two_are_tied_twice(self):
        for cut, tied in (([], True), ([0], True), ([1], True), ([0, 1], False)):
            ring = Ring(2)
            for link in cut:
                self.assertIsNone(ring.cut(link))
            entry = ring.write(0, "a")
            ring.beat()
            self.assertEqual(ring.log_of(1), [entry] if tied else [])
            self.assertEqual(ring.houses(), [[0, 1]] if tied else [[0], [1]])

    def test_cut_and_mended_again_and_anew(self):
        ring = Ring(3)
        for link in (0, 1, 2, 0):
            ring.cut(link)
        self.assertEqual(ring.houses(), [[0], [1], [2]])
        entry = ring.write(1, "a")
        ring.beat()
        self.assertEqual([ring.log_of(0), ring.log_of(2)], [[], []])
        self.assertIsNone(ring.mend(1))
        ring.mend(1)
        self.assertEqual(ring.houses(), [[0], [1, 2]])
        ring.beat()
        self.assertEqual([ring.log_of(0), ring.log_of(2)], [[], [entry]])
        ring.cut(1)
        ring.mend(2)
        self.assertEqual(ring.houses(), [[0, 2], [1]])
        ring.beat()
        self.assertEqual(ring.log_of(0), [entry])
        ring.mend(0)
        ring.mend(1)
        self.assertEqual(ring.houses(), [[0, 1, 2]])

    def test_apart_and_together_again(self):
        ring = Ring(2)
        ring.cut(0)
        ring.cut(1)
        for text in "abc":
            ring.write(0, text)
        ring.write(1, "d")
        ring.beat()
        ring.mend(1)
        ring.beat()
        log = [(0, 0, 0, "a"), (0, 1, 0, "d"), (1, 0, 1, "b"), (2, 0, 2, "c")]
        self.assertEqual([ring.log_of(0), ring.log_of(1)], [log, log])
        for _ in range(3):
            ring.beat()
        self.assertEqual([ring.log_of(0), ring.log_of(1)], [log, log])


def houses_by_search(many, whole):
    """The houses by going on from panel to panel over whole links."""
    told = []
    for panel in range(many):
        if panel in [one for house in told for one in house]:
            continue
        house, ahead = {panel}, [panel]
        while ahead:
            one = ahead.pop()
            for link in whole:
                pair = {link, (link + 1) % many}
                if one in pair:
                    ahead += pair - house
                    house |= pair
        told.append(sorted(house))
    return told


class Houses(unittest.TestCase):
    def patterns(self):
        for many in (2, 3, 4):
            for some in itertools.product((True, False), repeat=many):
                yield many, [link for link in range(many) if some[link]]

    def ring_with(self, many, whole):
        ring = Ring(many)
        for link in range(many):
            if link not in whole:
                ring.cut(link)
        return ring

    def test_each_pattern(self):
        for many, whole in self.patterns():
            self.assertEqual(self.ring_with(many, whole).houses(), houses_by_search(many, whole))

    def test_a_ring_with_the_midst_links_cut(self):
        self.assertEqual(self.ring_with(4, [3]).houses(), [[0, 3], [1], [2]])
        self.assertEqual(self.ring_with(4, [1, 3]).houses(), [[0, 3], [1, 2]])
        self.assertEqual(self.ring_with(4, [0, 2]).houses(), [[0, 1], [2, 3]])
        self.assertEqual(self.ring_with(4, [0, 1, 2]).houses(), [[0, 1, 2, 3]])

    def test_one_log_behind_so_many_beats(self):
        for many, whole in self.patterns():
            for seed in range(12):
                dice = random.Random(seed)
                ring = Ring(many)
                for at in range(10):
                    ring.write(dice.randrange(many), f"t{at}")
                    if dice.random() < 0.3:
                        dice.choice((ring.cut, ring.mend))(dice.randrange(many))
                    if dice.random() < 0.3:
                        ring.beat()
                for link in range(many):
                    (ring.mend if link in whole else ring.cut)(link)
                ahead = [ring.log_of(panel) for panel in range(many)]
                for house in ring.houses():
                    self.check_house(copy.deepcopy(ring), house, ahead)

    def check_house(self, ring, house, ahead):
        for _ in range(len(house) - 1):
            ring.beat()
        log = sorted({entry for panel in house for entry in ahead[panel]})
        for panel in house:
            self.assertEqual(ring.log_of(panel), log)

    def test_fewer_beats_may_be_too_few(self):
        ring = self.ring_with(4, [0, 1, 2])
        entry = ring.write(3, "a")
        ring.beat()
        ring.beat()
        self.assertEqual([ring.log_of(0), ring.log_of(1)], [[], [entry]])
        ring.beat()
        self.assertEqual(ring.log_of(0), [entry])


class Histories(unittest.TestCase):
    def test_seeded_deeds(self):
        for seed in range(80):
            dice = random.Random(seed)
            many = dice.choice((2, 3, 4))
            ring, logs, whole, own = Ring(many), [set() for _ in range(many)], set(range(many)), []
            for _ in range(60):
                deed, panel = dice.choice(("write", "write", "beat", "cut", "mend")), dice.randrange(many)
                if deed == "write":
                    stamp = max([entry[0] for entry in logs[panel]], default=-1) + 1
                    entry = (stamp, panel, len([one for one in own if one[1] == panel]), f"{seed} {len(own)}")
                    self.assertEqual(ring.write(panel, entry[3]), entry)
                    logs[panel].add(entry)
                    own.append(entry)
                elif deed == "beat":
                    ring.beat()
                    before = [set(log) for log in logs]
                    for link in whole:
                        logs[link] |= before[(link + 1) % many]
                        logs[(link + 1) % many] |= before[link]
                elif deed == "cut":
                    ring.cut(panel)
                    whole.discard(panel)
                else:
                    ring.mend(panel)
                    whole.add(panel)
                self.check(ring, logs, whole, own)

    def check(self, ring, logs, whole, own):
        many = len(logs)
        self.assertEqual(ring.houses(), houses_by_search(many, sorted(whole)))
        told = [ring.log_of(panel) for panel in range(many)]
        self.assertEqual(told, [sorted(log) for log in logs])
        for log in told:
            for panel in range(many):
                written = [entry for entry in own if entry[1] == panel and entry in log]
                self.assertEqual([entry for entry in log if entry[1] == panel], written)
        whichever = [self.join_all(list(order)) for order in itertools.permutations(told)]
        self.assertEqual(whichever, [sorted(own)] * len(whichever))

    def join_all(self, logs):
        log = logs[0]
        for other in logs[1:]:
            log = joined(log, other)
        return log


class Refused(unittest.TestCase):
    def test_panels_that_there_are_not(self):
        for many in (2, 3, 4):
            ring = Ring(many)
            ring.write(0, "a")
            before = all_told(ring, many)
            for thing in no_numbers(many):
                self.assertIs(refusal(ring.log_of, thing), NoPanel)
                for text in ["fair"] + NO_TEXTS:
                    kept = copy.deepcopy((thing, text))
                    self.assertIs(refusal(ring.write, thing, text), NoPanel)
                    self.assertEqual((thing, text), kept)
            self.assertEqual(all_told(ring, many), before)

    def test_links_that_there_are_not(self):
        for many in (2, 3, 4):
            ring = Ring(many)
            ring.cut(1)
            before = all_told(ring, many)
            for thing in no_numbers(many):
                self.assertIs(refusal(ring.cut, thing), NoLink)
                self.assertIs(refusal(ring.mend, thing), NoLink)
            self.assertEqual(all_told(ring, many), before)
            if many > 2:
                ring.cut(0)
                self.assertIn([1], ring.houses())

    def test_what_is_no_text_of_an_entry(self):
        ring = Ring(2)
        ring.write(1, "a")
        before = all_told(ring, 2)
        for thing in NO_TEXTS:
            kept = copy.deepcopy(thing)
            self.assertIs(refusal(ring.write, 1, thing), NoText)
            self.assertEqual(thing, kept)
        self.assertEqual(all_told(ring, 2), before)
        self.assertEqual(ring.write(1, "b"), (1, 1, 1, "b"))

    def test_texts_of_one_and_of_twenty_signs(self):
        ring = Ring(2)
        for text in TEXTS:
            self.assertEqual(ring.write(0, text)[3], text)


class OwnThings(unittest.TestCase):
    def test_told_logs_changed_behind_the_call(self):
        ring = Ring(2)
        entry = ring.write(0, "a")
        log = ring.log_of(0)
        log.append((9, 9, 9, "x"))
        empty = ring.log_of(1)
        empty.append("x")
        self.assertEqual(ring.log_of(0), [entry])
        ring.beat()
        self.assertEqual([ring.log_of(0), ring.log_of(1)], [[entry], [entry]])
        ring.log_of(1).clear()
        self.assertEqual([ring.log_of(0), ring.log_of(1)], [[entry], [entry]])
        self.assertEqual(ring.write(1, "b"), (1, 1, 0, "b"))
        self.assertEqual(log, [entry, (9, 9, 9, "x")])

    def test_later_deeds_change_no_told_log(self):
        ring = Ring(3)
        entry = ring.write(0, "a")
        logs, houses = [ring.log_of(panel) for panel in range(3)], ring.houses()
        ring.beat()
        ring.write(0, "b")
        ring.cut(0)
        ring.cut(1)
        self.assertEqual((logs, houses), ([[entry], [], []], [[0, 1, 2]]))

    def test_told_houses_changed_behind_the_call(self):
        ring = Ring(3)
        houses = ring.houses()
        houses[0].clear()
        houses.append([7])
        self.assertEqual(ring.houses(), [[0, 1, 2]])

    def test_two_share_nothing(self):
        one, other = Ring(3), Ring(3)
        one.write(0, "a")
        one.cut(0)
        one.cut(1)
        one.beat()
        self.assertEqual(all_told(other, 3), ([[], [], []], [[0, 1, 2]]))


ONE = [(0, 0, 0, "a"), (1, 0, 1, "b"), (5, 0, 2, "c")]
OTHER = [(0, 1, 0, "a"), (1, 0, 1, "b"), (999, 3, 999, "z")]


class Joined(unittest.TestCase):
    def refused(self, one, other):
        kept = copy.deepcopy((one, other))
        self.assertIs(refusal(joined, one, other), NoLog)
        self.assertIs(refusal(joined, other, one), NoLog)
        self.assertEqual((one, other), kept)

    def test_none(self):
        self.assertEqual(joined([], []), [])
        self.assertEqual(joined(ONE, []), ONE)
        self.assertEqual(joined([], ONE), ONE)

    def test_the_same_log_twice(self):
        self.assertEqual(joined(ONE, ONE), ONE)
        self.assertEqual(joined(ONE, list(ONE)), ONE)

    def test_shared_entries(self):
        log = [(0, 0, 0, "a"), (0, 1, 0, "a"), (1, 0, 1, "b"), (5, 0, 2, "c"), (999, 3, 999, "z")]
        self.assertEqual(joined(ONE, OTHER), log)
        self.assertEqual(joined(OTHER, ONE), log)

    def test_unlike_ones_in_both(self):
        self.refused([(0, 0, 0, "a")], [(0, 0, 0, "b")])
        self.refused([(0, 0, 0, "a")], [(1, 0, 0, "a")])
        self.refused(ONE, [(7, 2, 0, "x"), (8, 0, 2, "c")])

    def test_unlike_ones_in_one_alone(self):
        twice = [(0, 0, 0, "a"), (0, 0, 0, "b")]
        for other in ([], [(0, 1, 0, "x")], twice, [(0, 0, 0, "a")]):
            self.refused(twice, other)
        self.refused([(0, 2, 7, "a"), (3, 2, 7, "a")], ONE)

    def test_the_same_number_of_other_panels_and_other_numbers_of_a_panel(self):
        one = [(0, panel, 0, "a") for panel in range(4)]
        other = [(0, 0, number, "a") for number in range(4)]
        self.assertEqual(joined(one, other), sorted(set(one + other)))

    def test_two_hundred_each(self):
        one = [(stamp, stamp % 4, stamp, "x" * 20) for stamp in range(200)]
        other = [(stamp, stamp % 4, stamp, "x" * 20) for stamp in range(150, 350)]
        self.assertEqual(joined(one, other), [(stamp, stamp % 4, stamp, "x" * 20) for stamp in range(350)])

    def test_what_is_handed_in_stays_and_what_is_told_is_new(self):
        one, other = list(ONE), list(OTHER)
        told = joined(one, other)
        self.assertEqual((one, other), (ONE, OTHER))
        before = list(told)
        told.clear()
        self.assertEqual(joined(one, other), before)
        for log in (joined(one, []), joined([], one), joined(one, one)):
            log.clear()
        self.assertEqual(one, ONE)
        kept = joined(one, other)
        one.clear()
        self.assertEqual(kept, before)

    def random_logs(self, seed, clash):
        dice = random.Random(seed)
        known = {}
        for _ in range(12):
            panel, number = dice.randrange(4), dice.randrange(6)
            known[(panel, number)] = (dice.randrange(8), panel, number, dice.choice("abc"))
        logs = [[entry for entry in known.values() if dice.random() < 0.5] for _ in range(3)]
        if clash:
            stamp, panel, number, text = dice.choice(list(known.values()))
            dice.choice(logs).append((stamp, panel, number, text))
            dice.choice(logs).append((stamp + 1, panel, number, text))
        return [sorted(set(log)) for log in logs]

    def test_three_in_each_order_and_each_grouping(self):
        clashes = 0
        for seed in range(200):
            logs = self.random_logs(seed, seed % 2)
            told = []
            for one, two, three in itertools.permutations(logs):
                for group in (lambda: joined(joined(one, two), three), lambda: joined(one, joined(two, three))):
                    try:
                        told.append(group())
                    except NoLog:
                        told.append(None)
            every = sorted({entry for log in logs for entry in log})
            if len({entry[1:3] for entry in every}) < len(every):
                every = None
                clashes += 1
            self.assertEqual(told, [every] * 12)
        self.assertTrue(50 < clashes < 150)


if __name__ == "__main__":
    unittest.main()
