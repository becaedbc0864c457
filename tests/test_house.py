"""Points 3, 40 to 42: a house, its deeds, its beats, its events and its hands."""

import copy
import random
import unittest

from house_model import HouseModel, all_devices
from rule_samples import RULES, random_rules
from samples import ODD_THINGS, OPENER, ORDINARY, SMALLEST, nested, plan_of, random_plan, seeker
from warnloop.errors import HouseError, NoAddress, NoDeed, NoHand, NoPlan, NoRules
from warnloop.house import House
from warnloop.plans import stretches

MARKS = (5, 20, 10)
# A seeker, a knob, a bell and a door, all on one part; the bell sounds when any of the hall is warned.
PLAN = plan_of([seeker(1), ("knob", 2, ()), ("bell", 3, ()), ("door", 4, ())], zones=[("hall", (1, 2))])
SEEKER, KNOB, BELL, DOOR = [(0, at, 0) for at in (1, 2, 3, 4)]
RULE_ROWS = (("sound", 3, ("of", 1, "hall")), ("sound", 4, ("key", 1)))
# The same four on a loop each for two of them, so that each may be silenced by itself.
SPLIT = plan_of([seeker(1), OPENER, ("knob", 2, ())], [("bell", 3, ()), OPENER, ("door", 4, ())],
                zones=[("hall", (1, 2))])


def small_house(delays=(0, 0), plan=PLAN, rules=RULE_ROWS, marks=MARKS):
    return House(plan, rules, marks, delays)


def beats(house, many, words=(), hour=12, turned=(), spoils=()):
    return [house.beat(words, spoils, turned, hour) for _ in range(many)]


def all_told(house):
    return (house.notes(), house.lost(), house.sounded(), house.warned())


def refusal(deed, *things):
    try:
        deed(*things)
    except HouseError as error:
        return type(error)
    return None


class Made(unittest.TestCase):
    def test_at_first(self):
        for house in (small_house(), House(ORDINARY, RULES, (1, 200, 1), (0, 20, 5, 9))):
            self.assertEqual(all_told(house), ([], [], [], ()))

    def test_no_plan_ahead_of_no_rules(self):
        for thing in ODD_THINGS + [plan_of([seeker(1), seeker(1)]), list(PLAN)]:
            for rules in (RULE_ROWS, (), None, RULES):
                self.assertIs(refusal(House, thing, rules, MARKS, (0, 0)), NoPlan)

    def test_no_rules(self):
        for thing in ODD_THINGS + [
            RULE_ROWS[1:], RULE_ROWS + RULE_ROWS[:1], list(RULE_ROWS), RULES, (("sound", 3, ("of", 1, "attic")),),
            (("sound", 1, ("key", 1)), ("sound", 3, ("key", 1))), (("sound", 3, ("term", "a")),),
        ]:
            self.assertIs(refusal(House, PLAN, thing, MARKS, (0, 0)), NoRules)

    def test_delays_by_addresses_rising(self):
        # In order of spots the bells and doors of ORDINARY are 3, 4, 7, 8; here they stand the other way round.
        plan = plan_of([("door", 9, (("bell", 5),)), ("bell", 7, ()), ("door", 2, ())])
        rules = tuple(("sound", address, ("key", 1)) for address in (9, 5, 7, 2))
        house = House(plan, rules, MARKS, (0, 1, 2, 3))
        told = beats(house, 4, turned=(1,))
        self.assertEqual([[event for event in events if event[0] in ("sounding", "waiting")] for events in told], [
            [("sounding", 2), ("waiting", 5), ("waiting", 7), ("waiting", 9)], [("sounding", 5)], [("sounding", 7)],
            [("sounding", 9)],
        ])

    def test_a_house_without_bells(self):
        house = House(SMALLEST, (("term", "a", ("key", 1)),), MARKS, ())
        self.assertEqual(beats(house, 3), [[]] * 3)
        self.assertEqual((house.press(), house.silence(), house.reset(), house.sounded()), ([], [], [], []))


class Deeds(unittest.TestCase):
    def test_stretches(self):
        house = small_house()
        self.assertIsNone(house.befall(("short", (0, 2, 0))))
        self.assertEqual(beats(house, 3)[2], [("lost", 1), ("lost", 2), ("lost", 3), ("lost", 4)])
        self.assertIsNone(house.befall(("mend", (0, 2, 0))))
        self.assertEqual(beats(house, 1)[0], [("back", 1), ("back", 2), ("back", 3), ("back", 4)])
        self.assertIsNone(house.befall(("cut", (0, 0, 0))))
        house.befall(("cut", (0, 2, 0)))
        self.assertEqual(beats(house, 3)[2], [("lost", 1), ("lost", 2)])
        house.befall(("short", (0, 0, 0)))
        house.befall(("mend", (0, 2, 0)))
        house.befall(("cut", (0, 0, 0)))
        self.assertEqual(beats(house, 1)[0], [("back", 1), ("back", 2)])

    def test_devices_out_and_in(self):
        house = small_house()
        self.assertIsNone(house.befall(("out", BELL)))
        house.befall(("out", BELL))
        self.assertEqual(beats(house, 3)[2], [("lost", 3)])
        self.assertIsNone(house.befall(("in", BELL, "bell", 3)))
        self.assertEqual(beats(house, 1)[0], [("back", 3)])

    def test_openers_act_at_the_beat(self):
        house = small_house(plan=SPLIT)
        house.befall(("short", (0, 0, 0)))
        self.assertEqual(beats(house, 3), [[], [], [("lost", 1)]])
        house.befall(("short", (1, 0, 0)))
        house.befall(("mend", (1, 0, 0)))
        self.assertEqual(beats(house, 3), [[]] * 3)

    def test_what_is_no_deed(self):
        house = small_house()
        house.befall(("cut", (0, 0, 0)))
        beats(house, 2, words=((SEEKER, 30), (KNOB, 3)))
        before = all_told(house)
        strangers = ODD_THINGS + [
            (), ("cut",), ("cut", (0, 0, 0), 0), ("short", (0, 0, 0), 0), ("mend", (0, 0, 0), 0),
            ["cut", (0, 0, 0)], (("cut", (0, 0, 0)),), ("Cut", (0, 0, 0)),
            ("part", (0, 0)), ("out",), ("out", SEEKER, "seeker"), ("in", SEEKER), ("in", SEEKER, "seeker"),
            ("in", SEEKER, "seeker", 1, 1), ("in", SEEKER, "opener", 0), ("in", SEEKER, "lamp", 1),
            ("in", SEEKER, "seeker", 0), ("in", SEEKER, "seeker", 100), ("in", SEEKER, "seeker", True),
            ("in", SEEKER, "seeker", "1"), ("in", SEEKER, ["seeker"], 1), ("in", SEEKER, "seeker", None),
            ("in", SEEKER, 1, "seeker"), ("in", SEEKER, "seeker", 10 ** 5000), ("cut", SEEKER, "seeker", 1),
            (True, (0, 0, 0)), (None, (0, 0, 0)), nested(12, ("cut", (0, 0, 0))), ("out", SEEKER, "seeker", 1),
        ]
        for thing in ODD_THINGS + [(0, 0), (0, 0, 0, 0), [0, 0, 0], (0, False, 0), (1, 0, 0), (0, 5, 0), (0, 1, 1)]:
            strangers += [(word, thing) for word in ("cut", "short", "mend", "out")]
            strangers += [("in", thing, "seeker", 1)]
        strangers += [("out", (0, 0, 0)), ("in", (0, 0, 0), "seeker", 1)]
        for thing in strangers:
            kept = copy.deepcopy(thing)
            self.assertIs(refusal(house.befall, thing), NoDeed)
            self.assertEqual(thing, kept)
        self.assertEqual(all_told(house), before)
        # From end B all is heard: nothing was cut, taken out or put in.
        self.assertEqual(beats(house, 3), [[]] * 3)

    def test_spots_of_openers_are_none(self):
        house = small_house(plan=SPLIT)
        for deed in (("out", (0, 2, 0)), ("in", (0, 2, 0), "bell", 5), ("out", (0, 4, 0)), ("out", (1, 2, 0))):
            self.assertIs(refusal(house.befall, deed), NoDeed)


class Answers(unittest.TestCase):
    def lost_behind(self, spoils, plan=SPLIT, deeds=()):
        """Which addresses are not heard where these answers are spoiled at three beats."""
        house = small_house(plan=plan)
        for deed in deeds:
            house.befall(deed)
        return [event[1] for event in beats(house, 3, spoils=spoils)[2] if event[0] == "lost"]

    def test_numbers_go_loop_by_loop_from_a_and_then_from_b(self):
        # 0: 1 from A, 1: 2 from A, 2: 1 from B, 3: 2 from B, 4: 3 from A, 5: 4 from A, 6: 3 from B, 7: 4 from B.
        pairs = {(0, 2): [1], (1, 3): [2], (4, 6): [3], (5, 7): [4]}
        for one in range(8):
            for other in range(one + 1, 8):
                spoils = ((one, 4, 0), (other, 4, 0))
                self.assertEqual(self.lost_behind(spoils), pairs.get((one, other), []))

    def test_numbers_move_with_what_is_heard(self):
        cut = (("cut", (0, 1, 0)),)
        # 0: 1 from A, 1: 2 from B, 2: 3 from A, 3: 4 from A, 4: 3 from B, 5: 4 from B.
        self.assertEqual(self.lost_behind(((0, 4, 0),), deeds=cut), [1])
        self.assertEqual(self.lost_behind(((1, 4, 0),), deeds=cut), [2])
        self.assertEqual(self.lost_behind(((2, 4, 0), (4, 4, 0)), deeds=cut), [3])
        out = (("out", (0, 1, 0)),)
        self.assertEqual(self.lost_behind(((0, 4, 0), (1, 4, 0)), deeds=out), [1, 2])

    def test_order_of_spots_not_of_addresses(self):
        plan = plan_of([("bell", 3, (("door", 4),)), ("knob", 2, ()), seeker(1)], zones=[("hall", (1, 2))])
        for at, address in enumerate((3, 4, 2, 1)):
            self.assertEqual(self.lost_behind(((at, 4, 0), (at + 4, 4, 0)), plan=plan), [address])

    def test_each_place_spoiled(self):
        deeds = (("cut", (0, 1, 0)),)
        for place in range(4):
            for by in (-300, -257, -8, -1, 1, 2, 8, 256, 257, 300):
                self.assertEqual(self.lost_behind(((0, place, by),), deeds=deeds), [1])
            self.assertEqual(self.lost_behind(((0, place, 0),), deeds=deeds), [])

    def test_spoiled_back_again(self):
        deeds = (("cut", (0, 1, 0)),)
        self.assertEqual(self.lost_behind(((0, 3, 5), (0, 3, -5)), deeds=deeds), [])
        self.assertEqual(self.lost_behind(((0, 2, 5), (1, 2, 9), (0, 2, -5)), deeds=deeds), [2])

    def test_several_of_one_answer_make_another_frame(self):
        house = small_house()
        told = beats(house, 1, words=((KNOB, 0),), spoils=((1, 2, 4), (1, 3, 28)))
        self.assertEqual(told, [[("two", 2)]])
        house = small_house(plan=SPLIT)
        house.befall(("cut", (0, 1, 0)))
        told = beats(house, 1, spoils=((1, 2, 4), (1, 3, 28)))
        self.assertEqual(told, [[("knob", 2), ("sounding", 3)]])

    def test_an_answer_that_bears_anothers_address(self):
        house = small_house(plan=SPLIT)
        house.befall(("cut", (0, 1, 0)))
        # The seeker's answer becomes the knob's, and the knob's own is lost.
        told = beats(house, 1, words=(((0, 1, 0), 9),), spoils=((0, 0, 1), (1, 4, 0), (0, 3, 3)))
        self.assertEqual(told, [[("knob", 2), ("sounding", 3)]])

    def test_a_lost_one_is_changed_no_more(self):
        for spoils in (((0, 4, 0), (0, 2, 5)), ((0, 4, 7), (0, 4, 0)), ((0, 2, 5), (0, 4, 0), (0, 2, -5))):
            self.assertEqual(self.lost_behind(spoils, deeds=(("cut", (0, 1, 0)),)), [1])

    def test_answers_that_there_are_not(self):
        self.assertEqual(self.lost_behind(((8, 4, 0), (99, 0, 5), (50, 4, 300))), [])
        self.assertEqual(self.lost_behind(((6, 4, 0), (2, 4, 0)), deeds=(("cut", (0, 1, 0)),)), [])

    def test_eight_spoils(self):
        self.assertEqual(self.lost_behind(tuple((number, 4, 0) for number in range(8))), [1, 2, 3, 4])

    def test_the_turn_of_the_beat(self):
        house = small_house(plan=SPLIT)
        house.befall(("cut", (0, 1, 0)))
        for beat in range(20):
            # An answer of the beat behind it is counted by no beat, its check being made to fit.
            late = ((0, 1, 1), (0, 3, 5)) if beat % 8 != 7 else ((0, 1, -7), (0, 3, -35))
            house.beat((), late, (), 12)
        self.assertEqual(house.notes(), ["lost 1"])


class Devices(unittest.TestCase):
    def test_put_in_elsewhere(self):
        house = small_house(plan=SPLIT)
        house.befall(("out", (0, 1, 0)))
        house.befall(("in", (0, 3, 0), "seeker", 1))
        # The seeker stands in the knob's spot now, and answers by the word of that spot.
        told = beats(house, 4, words=(((0, 3, 0), 9),))
        self.assertEqual(told, [[], [], [("lost", 2)], []])
        told = beats(house, 3, words=(((0, 3, 0), 99),))
        self.assertEqual(told, [[("first", 1, 4)], [], [("warning", 1, (4, 5, 6)), ("sounding", 3)]])

    def test_with_anothers_address(self):
        house = small_house(plan=SPLIT)
        house.befall(("in", (0, 3, 0), "seeker", 1))
        self.assertEqual(beats(house, 2, words=(((0, 1, 0), 5), ((0, 3, 0), 5))), [[], []])
        told = beats(house, 4, words=(((0, 1, 0), 5), ((0, 3, 0), 6)))
        self.assertEqual(told, [[("two", 1), ("lost", 2)], [], [("lost", 1)], []])
        told = beats(house, 1, words=(((0, 1, 0), 6), ((0, 3, 0), 6)))
        self.assertEqual(told, [[("back", 1)]])

    def test_an_address_is_what_the_plan_says(self):
        house = small_house()
        house.befall(("in", KNOB, "seeker", 2))
        house.befall(("in", SEEKER, "knob", 1))
        told = beats(house, 2, words=((SEEKER, 9), (KNOB, 9)))
        self.assertEqual(told, [[("knob", 2), ("sounding", 3)], []])
        told = beats(house, 3, words=((SEEKER, 90), (KNOB, 9)))
        self.assertEqual(told, [[("first", 1, 2)], [], [("warning", 1, (2, 3, 4))]])

    def test_an_address_that_the_plan_has_not(self):
        house = small_house()
        house.befall(("in", KNOB, "knob", 77))
        self.assertEqual(beats(house, 3, words=((KNOB, 9),)), [[], [], [("lost", 2)]])
        self.assertEqual(house.warned(), ())

    def test_words_of_others_are_nought(self):
        house = small_house()
        beats(house, 1, words=((SEEKER, 50),))
        # The level falls to 0 and comes up again: no word of an earlier beat is kept.
        beats(house, 4)
        told = beats(house, 1, words=((SEEKER, 54),))
        self.assertEqual(told, [[("first", 1, 5)]])

    def test_words_of_spots_that_are_empty(self):
        house = small_house()
        house.befall(("out", KNOB))
        self.assertEqual(beats(house, 2, words=((KNOB, 9), (BELL, 200), (DOOR, 255))), [[], []])


class Warners(unittest.TestCase):
    def run_level(self, hour, rise, marks=MARKS):
        house = small_house(marks=marks)
        beats(house, 1, words=((SEEKER, 40),), hour=hour)
        return beats(house, 3, words=((SEEKER, 40 + rise),), hour=hour)

    def test_by_day_and_by_night(self):
        for hour in range(24):
            night = hour < 6 or hour > 21
            for rise, warns in ((9, False), (10, night), (19, night), (20, True)):
                told = self.run_level(hour, rise)
                self.assertEqual(told[:2], [[("first", 1, 1)], []])
                self.assertEqual(told[2], [("warning", 1, (1, 2, 3)), ("sounding", 3)] if warns else [])

    def test_night_falls_meanwhile(self):
        house = small_house()
        beats(house, 1, words=((SEEKER, 40),))
        told = [house.beat(((SEEKER, 52),), (), (), hour) for hour in (20, 21, 22, 23, 0)]
        self.assertEqual(told, [[("first", 1, 1)], [], [], [], [("warning", 1, (3, 4, 5)), ("sounding", 3)]])

    def test_only_heard_beats_are_askings(self):
        house = small_house(plan=SPLIT)
        spot = (0, 1, 0)
        beats(house, 1, words=((spot, 10),))
        lost = ((0, 4, 0), (2, 4, 0))
        told = []
        for spoils in ((), lost, (), lost, lost, ()):
            told.append(house.beat(((spot, 60),), spoils, (), 12))
        self.assertEqual(told, [[("first", 1, 1)], [], [], [], [], [("warning", 1, (1, 2, 3)), ("sounding", 3)]])

    def test_dirt(self):
        house = small_house()
        self.assertEqual(beats(house, 1, words=((SEEKER, 100),)), [[("dirt", 1, 100)]])
        house = small_house(marks=(5, 20, 10))
        beats(house, 4, words=((SEEKER, 98),))
        told = beats(house, 8, words=((SEEKER, 102),))
        self.assertEqual([event for events in told for event in events], [("dirt", 1, 100)])

    def test_knobs(self):
        house = small_house()
        self.assertEqual(beats(house, 1, words=((KNOB, 0),)), [[]])
        self.assertEqual(beats(house, 3, words=((KNOB, 1),)), [[("knob", 2), ("sounding", 3)], [], []])
        self.assertEqual(house.warned(), (2,))
        self.assertEqual(beats(house, 2, words=((KNOB, 0),)), [[], []])
        self.assertEqual(house.warned(), (2,))
        self.assertEqual(beats(house, 1, words=((KNOB, 255),)), [[]])

    def test_a_knob_that_is_two_or_missed_is_not_warned(self):
        house = small_house()
        told = beats(house, 1, words=((KNOB, 7),), spoils=((1, 2, 1), (1, 3, 7)))
        self.assertEqual((told, house.warned()), ([[("two", 2)]], ()))
        told = beats(house, 1, words=((KNOB, 7),), spoils=((1, 4, 0), (5, 2, 1)))
        self.assertEqual((told, house.warned()), ([[]], ()))

    def test_a_lost_one_stays_warned(self):
        house = small_house()
        beats(house, 1, words=((KNOB, 1),))
        house.befall(("out", KNOB))
        self.assertEqual(beats(house, 3)[2], [("lost", 2)])
        self.assertEqual(house.warned(), (2,))

    def test_both_are_warned_rising(self):
        plan = plan_of([("knob", 9, ()), seeker(5), ("knob", 1, ()), seeker(8), ("bell", 3, ())],
                       zones=[("hall", (1, 5, 8, 9))])
        house = House(plan, (("sound", 3, ("of", 4, "hall")),), MARKS, (0,))
        calm, high = [tuple(((0, at, 0), level) for at in (1, 2, 3, 4)) for level in (0, 100)]
        beats(house, 1, words=calm)
        told = beats(house, 3, words=high)
        self.assertEqual(told[0], [("knob", 1), ("first", 5, 1), ("first", 8, 1), ("knob", 9)])
        self.assertEqual(told[2], [("warning", 5, (1, 2, 3)), ("warning", 8, (1, 2, 3)), ("sounding", 3)])
        self.assertEqual(house.warned(), (1, 5, 8, 9))


class Events(unittest.TestCase):
    def test_the_order_of_events(self):
        plan = plan_of([("bell", 1, ()), seeker(2), OPENER, ("knob", 3, ()), ("door", 4, ()), OPENER, seeker(9)],
                       zones=[("z", (2, 3))])
        rules = (("sound", 1, ("of", 1, "z")), ("sound", 4, ("of", 2, "z")))
        house = House(plan, rules, MARKS, (0, 2))
        spot_2, spot_3, spot_9 = (0, 2, 0), (0, 4, 0), (0, 7, 0)
        beats(house, 1, words=((spot_2, 10), (spot_9, 10)))
        house.befall(("out", (0, 1, 0)))
        house.befall(("out", (0, 5, 0)))
        house.put_out(4, 4)
        beats(house, 2, words=((spot_2, 90), (spot_9, 99)))
        told = beats(house, 1, words=((spot_2, 90), (spot_3, 1), (spot_9, 200)), spoils=((0, 3, 1), (3, 3, 1)))
        # 2 is lost to its spoils at this beat, so that it warns at the next one.
        self.assertEqual(told, [[("lost", 1), ("lost", 4), ("knob", 3), ("warning", 9, (1, 2, 3)), ("sounding", 1),
                                 ("dumb", 1)]])
        house.befall(("in", (0, 1, 0), "bell", 1))
        told = beats(house, 1, words=((spot_2, 90), (spot_9, 5)))
        self.assertEqual(told, [[("back", 1), ("warning", 2, (1, 2, 3)), ("waiting", 4), ("used", 4)]])
        told = beats(house, 2, words=((spot_2, 90), (spot_9, 5)))
        self.assertEqual(told, [[], [("sounding", 4), ("dumb", 4)]])
        self.assertEqual(house.notes(), [
            "first 2 1", "first 9 1", "lost 1", "lost 4", "knob 3", "warning 9 1 2 3", "sounding 1", "dumb 1", "back 1",
            "warning 2 1 2 3", "waiting 4", "used 4", "sounding 4", "dumb 4",
        ])

    def test_notes_sign_by_sign(self):
        house = small_house(delays=(1, 0))
        beats(house, 1, words=((SEEKER, 100),))
        beats(house, 3, words=((SEEKER, 130),))
        beats(house, 1, words=((SEEKER, 130), (KNOB, 3)), turned=(1,))
        house.befall(("out", DOOR))
        beats(house, 3, words=((SEEKER, 130),))
        house.befall(("in", DOOR, "door", 4))
        house.put_out(3, 1)
        beats(house, 1, words=((SEEKER, 130),), spoils=((1, 2, 1), (1, 3, 7)))
        self.assertEqual(house.notes(), [
            "dirt 1 100", "first 1 1", "warning 1 1 2 3", "waiting 3", "knob 2", "sounding 3", "sounding 4", "lost 4",
            "dumb 4", "two 2", "back 4", "used 3",
        ])

    def test_many_askings(self):
        house = small_house()
        beats(house, 1200, words=((SEEKER, 30),))
        beats(house, 3, words=((SEEKER, 60),))
        self.assertEqual(house.notes(), ["first 1 1200", "warning 1 1200 1201 1202", "sounding 3"])

    def test_dumb_is_told_once_while_it_lasts(self):
        house = small_house()
        beats(house, 1, words=((KNOB, 1),))
        house.befall(("out", BELL))
        self.assertEqual(beats(house, 5), [[], [], [("lost", 3), ("dumb", 3)], [], []])
        house.befall(("in", BELL, "bell", 3))
        self.assertEqual(beats(house, 2), [[("back", 3)], []])
        house.befall(("out", BELL))
        self.assertEqual(beats(house, 4), [[], [], [("lost", 3), ("dumb", 3)], []])

    def test_dumb_of_one_that_is_lost_first(self):
        house = small_house()
        house.befall(("out", BELL))
        self.assertEqual(beats(house, 4), [[], [], [("lost", 3)], []])
        self.assertEqual(beats(house, 2, words=((KNOB, 1),)), [[("knob", 2), ("sounding", 3), ("dumb", 3)], []])

    def test_dumb_again_behind_silence_and_out_of_use(self):
        house = small_house()
        house.befall(("out", BELL))
        beats(house, 3)
        beats(house, 1, words=((KNOB, 1),))
        house.silence()
        self.assertEqual(beats(house, 1), [[]])
        self.assertEqual(beats(house, 1, turned=(1,)), [[("sounding", 3), ("sounding", 4), ("dumb", 3)]])
        house.put_out(3, 2)
        self.assertEqual(beats(house, 2), [[], [("used", 3), ("dumb", 3)]])

    def test_dumb_asks_for_what_was_behind_the_beat_ahead(self):
        house = small_house()
        house.befall(("out", BELL))
        beats(house, 3)
        self.assertIn(("dumb", 3), beats(house, 1, words=((KNOB, 1),))[0])
        # Silenced and awake again between two beats' ends: at both ends it is sounded and lost.
        house.silence()
        self.assertEqual(beats(house, 1, turned=(1,)), [[("sounding", 3), ("sounding", 4)]])

    def test_several_are_dumb(self):
        house = small_house()
        house.befall(("short", (0, 0, 0)))
        beats(house, 3)
        self.assertEqual(house.lost(), [1, 2, 3, 4])
        self.assertEqual(beats(house, 1, turned=(1,)), [[("sounding", 4), ("dumb", 4)]])

    def test_a_waiting_or_silenced_one_is_not_dumb(self):
        house = small_house(delays=(5, 0))
        house.befall(("out", BELL))
        told = beats(house, 4, words=((KNOB, 1),))
        self.assertEqual(told, [[("knob", 2), ("waiting", 3)], [], [("lost", 3)], []])
        self.assertEqual(beats(house, 2), [[], [("sounding", 3), ("dumb", 3)]])


class Rules(unittest.TestCase):
    def test_a_table_over_many_beats(self):
        rules = (("sound", 3, ("then", ("key", 1), ("of", 1, "hall"), 2)), ("sound", 4, ("hours", 22, 6)))
        house = small_house(rules=rules)
        self.assertEqual(beats(house, 1, turned=(1,)), [[]])
        self.assertEqual(beats(house, 1), [[]])
        self.assertEqual(beats(house, 1, words=((KNOB, 1),)), [[("knob", 2), ("sounding", 3)]])
        self.assertEqual(beats(house, 1, hour=22), [[("sounding", 4)]])
        self.assertEqual(house.sounded(), [3, 4])

    def test_an_out_without_a_row_is_still(self):
        house = small_house(rules=RULE_ROWS[:1])
        self.assertEqual(beats(house, 1, words=((KNOB, 1),), turned=(1,)), [[("knob", 2), ("sounding", 3)]])
        self.assertIs(refusal(house.lengthen, 4), NoHand)

    def test_who_is_warned_at_this_beat_counts_at_it(self):
        rules = (("sound", 3, ("of", 2, "hall")),)
        house = small_house(rules=rules)
        beats(house, 1, words=((SEEKER, 10),))
        beats(house, 2, words=((SEEKER, 99),))
        told = beats(house, 1, words=((SEEKER, 99), (KNOB, 1)))
        self.assertEqual(told, [[("warning", 1, (1, 2, 3)), ("knob", 2), ("sounding", 3)]])


class Hands(unittest.TestCase):
    def test_press_and_lengthen(self):
        house = small_house(delays=(3, 4))
        beats(house, 1, words=((KNOB, 1),), turned=(1,))
        self.assertEqual(house.lengthen(4), 8)
        self.assertIs(refusal(house.lengthen, 4), NoHand)
        self.assertEqual(house.press(), [3, 4])
        self.assertEqual(beats(house, 1, turned=(1,)), [[("sounding", 3), ("sounding", 4)]])
        self.assertIs(refusal(house.lengthen, 3), NoHand)
        self.assertEqual(house.press(), [])

    def test_silence(self):
        house = small_house()
        beats(house, 1, words=((KNOB, 1),), turned=(1,))
        self.assertEqual(house.silence(), [3, 4])
        self.assertEqual((house.sounded(), house.silence()), ([], []))
        self.assertEqual(house.warned(), (2,))

    def test_put_out(self):
        house = small_house()
        self.assertIsNone(house.put_out(3, 2))
        self.assertEqual(beats(house, 1, words=((KNOB, 1),)), [[("knob", 2), ("sounding", 3)]])
        self.assertEqual(house.sounded(), [])
        self.assertEqual(beats(house, 1), [[("used", 3)]])
        self.assertEqual(house.sounded(), [3])

    def test_strangers(self):
        house = small_house()
        beats(house, 1, words=((KNOB, 1),))
        before = all_told(house)
        for thing in ODD_THINGS + [True, 1, 2, 5, 0, 100, "3", (3,), [3], nested(12, 3), 10 ** 5000]:
            self.assertIs(refusal(house.lengthen, thing), NoAddress)
            self.assertIs(refusal(house.put_out, thing, 3), NoAddress)
        self.assertIs(refusal(house.lengthen, 3), NoHand)
        self.assertEqual(all_told(house), before)

    def test_reset_is_of_outs_not_wanted(self):
        house = small_house()
        beats(house, 1, words=((KNOB, 1),), turned=(1,))
        beats(house, 1)
        # The knob stays warned, so the bell was wanted at the last beat; the door was not.
        self.assertEqual(house.reset(), [4])
        self.assertEqual((house.sounded(), house.warned()), ([3], ()))
        self.assertEqual(beats(house, 1), [[]])
        self.assertEqual(house.sounded(), [3])
        self.assertEqual(house.reset(), [3])
        self.assertEqual(house.sounded(), [])

    def test_behind_a_reset_nobody_is_warned(self):
        house = small_house()
        beats(house, 1, words=((SEEKER, 10),))
        beats(house, 3, words=((SEEKER, 60), (KNOB, 1)))
        self.assertEqual(house.warned(), (1, 2))
        house.reset()
        self.assertEqual(house.warned(), ())
        told = beats(house, 3, words=((SEEKER, 60), (KNOB, 1)))
        self.assertEqual(told, [[("knob", 2)], [], [("warning", 1, (4, 5, 6))]])

    def test_a_reset_breaks_three_in_a_row(self):
        house = small_house()
        beats(house, 1, words=((SEEKER, 10),))
        beats(house, 2, words=((SEEKER, 60),))
        self.assertEqual(house.reset(), [])
        told = beats(house, 3, words=((SEEKER, 60),))
        self.assertEqual(told, [[], [], [("warning", 1, (3, 4, 5)), ("sounding", 3)]])

    def test_a_reset_changes_nothing_of_talk_and_base(self):
        house = small_house()
        beats(house, 1, words=((SEEKER, 10),))
        house.befall(("out", DOOR))
        beats(house, 2, words=((SEEKER, 10),))
        house.reset()
        self.assertEqual(beats(house, 1, words=((SEEKER, 16),)), [[("lost", 4), ("first", 1, 3)]])
        house.reset()
        self.assertEqual((house.lost(), beats(house, 1, words=((SEEKER, 16),))), ([4], [[]]))

    def test_hands_write_no_notes(self):
        house = small_house()
        beats(house, 1, words=((KNOB, 1),))
        before = house.notes()
        house.silence()
        house.put_out(3, 9)
        house.press()
        house.reset()
        house.befall(("cut", (0, 0, 0)))
        self.assertEqual(house.notes(), before)


class OwnThings(unittest.TestCase):
    def test_what_is_told_is_the_askers_own(self):
        house = small_house()
        house.befall(("out", DOOR))
        beats(house, 3)
        events = house.beat(((KNOB, 1),), (), (), 12)
        events.clear()
        before = all_told(house)
        for ask in (house.notes, house.lost, house.sounded):
            told = ask()
            self.assertTrue(told)
            told.append("more")
        self.assertEqual(all_told(house), before)
        house.silence().append(4)
        beats(house, 1)
        house.reset().append(9)
        self.assertEqual(house.notes(), ["lost 4", "knob 2", "sounding 3"])

    def test_later_deeds_change_no_answer(self):
        house = small_house()
        events = house.beat(((KNOB, 1),), (), (), 12)
        told = all_told(house)
        house.befall(("short", (0, 0, 0)))
        beats(house, 4)
        house.reset()
        self.assertEqual(events, [("knob", 2), ("sounding", 3)])
        self.assertEqual(told, (["knob 2", "sounding 3"], [], [3], (2,)))

    def test_two_share_nothing(self):
        one, other = small_house(), small_house()
        one.befall(("out", DOOR))
        one.befall(("short", (0, 0, 0)))
        beats(one, 4, words=((KNOB, 1),), turned=(1,))
        one.put_out(4, 3)
        self.assertEqual(all_told(other), ([], [], [], ()))
        self.assertEqual(beats(other, 4, words=((SEEKER, 9),)), [[]] * 4)
        self.assertEqual(beats(other, 1, words=((KNOB, 1),)), [[("knob", 2), ("sounding", 3)]])


class Histories(unittest.TestCase):
    """Whole houses against the second reckoning, with all that point 3 says of them."""

    def random_deed(self, dice, plan):
        word = dice.choice(("cut", "short", "mend", "mend", "out", "in", "in"))
        if word in ("cut", "short", "mend"):
            return (word, dice.choice(stretches(plan)))
        spot, kind, address = dice.choice(all_devices(plan))
        if word == "out":
            return (word, spot)
        if dice.random() < 0.3:
            _, kind, address = dice.choice(all_devices(plan))
        return (word, spot, kind, address)

    def random_spoils(self, dice):
        told = []
        while dice.random() < 0.5 and len(told) < 7:
            number = dice.randrange(30)
            told.append((number, dice.randrange(5), dice.choice((-300, -1, 1, 2, 7, 300))))
            if dice.random() < 0.3:
                told += [(number, 2, 1), (number, 3, 7)][:8 - len(told)]
        return tuple(told)

    def random_words(self, dice, plan, high):
        told = []
        for spot, kind, _ in all_devices(plan):
            if kind == "seeker":
                told.append((spot, 90 if spot in high else dice.choice((20, 20, 22, 24))))
            elif dice.random() < 0.05:
                told.append((spot, dice.choice((0, 1, 255))))
        return tuple(told)

    def do(self, dice, plan, house, model, high):
        if dice.random() < 0.3:
            deed = self.random_deed(dice, plan)
            house.befall(deed)
            model.befall(deed)
        hand = dice.random()
        if hand < 0.05:
            self.assertEqual(house.reset(), model.reset())
        elif hand < 0.1:
            self.assertEqual(house.silence(), model.outs.silence())
        elif hand < 0.15:
            self.assertEqual(house.press(), model.outs.press())
        elif hand < 0.2 and model.outs.outs:
            address = dice.choice(model.outs.outs)["address"]
            beats_out = dice.choice((1, 2, 5, 60))
            house.put_out(address, beats_out)
            model.outs.put_out(address, beats_out)
        made = (self.random_words(dice, plan, high), self.random_spoils(dice),
                tuple(key for key in range(10) if dice.random() < 0.1), dice.randrange(24))
        self.assertEqual(house.beat(*made), model.beat(*made))

    def run_house(self, seed, plan, many):
        dice = random.Random(seed)
        rules = random_rules(seed, plan)
        outs = [address for _, kind, address in all_devices(plan) if kind in ("bell", "door")]
        delays = tuple(dice.choice((0, 0, 1, 3, 20)) for _ in outs)
        made = (plan, rules, dice.choice((MARKS, (1, 30, 15), (40, 60, 50))), delays)
        house, model, high = House(*made), HouseModel(*made), set()
        for _ in range(many):
            for spot, _, _ in all_devices(plan):
                if dice.random() < 0.1:
                    high ^= {spot}
            self.do(dice, plan, house, model, high)
            self.assertEqual(house.warned(), model.warned())
            self.assertEqual(house.lost(), sorted(model.lost))
            self.assertEqual(house.sounded(), model.sounded())
            self.assertEqual(house.notes(), model.notes)
        return model.notes

    def test_seeded_houses(self):
        words = set()
        for seed in range(40):
            words |= {note.split(" ")[0] for note in self.run_house(seed, ORDINARY, 50)}
        self.assertEqual(words, {
            "two", "lost", "back", "first", "warning", "knob", "sounding", "waiting", "still", "used", "dumb",
        })

    def test_seeded_houses_of_other_plans(self):
        for seed in range(30):
            plan = random_plan(seed)
            if len([1 for _, kind, _ in all_devices(plan) if kind in ("bell", "door")]) <= 15:
                self.run_house(seed, plan, 25)


if __name__ == "__main__":
    unittest.main()
