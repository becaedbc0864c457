"""Points 3, 8, 9, 10, 11: stretches, devices, openers, rest and what is heard."""

import copy
import itertools
import random
import unittest

from graph import Graph
from samples import GREATEST, ODD_THINGS, OPENER, ORDINARY, SMALLEST, plan_of, random_plan, seeker
from warnloop.errors import NoOpener, NoPlan, NoSpot, NoStretch
from warnloop.plans import devices, openers, parts, stretches
from warnloop.wires import Wires

# End A, a seeker with a bell on its spur, an opener, a seeker, end B: small enough for every case.
SMALL = plan_of([seeker(1, ("bell", 2)), OPENER, seeker(3)])
# Two openers in the midst, so that one of them is next to neither end's own part.
LONGER = plan_of([seeker(1), OPENER, seeker(2, ("bell", 3)), OPENER, seeker(4)])
HOWS = ("whole", "cut", "short")


def lay(wires, stretch, how):
    {"whole": wires.mend, "cut": wires.cut, "short": wires.short}[how](stretch)


def wires_with(plan, faults, gaps=()):
    """Wires with these faults, and with just these openers parted."""
    wires = Wires(plan)
    for stretch in stretches(plan):
        wires.short(stretch)
    for opener in gaps:
        wires.act(opener)
    for stretch in stretches(plan):
        lay(wires, stretch, faults.get(stretch, "whole"))
    return wires


def all_told(wires, plan):
    """All that can be asked of wires without a change."""
    hows = [wires.how(stretch) for stretch in stretches(plan)]
    heard = [wires.heard(loop, end) for loop in range(len(plan[1])) for end in "AB"]
    return (hows, wires.there(), wires.parted(), wires.rests(), heard)


def subsets(row):
    return [some for many in range(len(row) + 1) for some in itertools.combinations(row, many)]


def every_case(plan):
    """Each way the stretches and the openers of the plan may be."""
    row = stretches(plan)
    for hows in itertools.product(HOWS, repeat=len(row)):
        for gaps in subsets(openers(plan)):
            yield dict(zip(row, hows)), gaps


def random_case(dice, plan):
    share = dice.random()
    faults = {}
    for stretch in stretches(plan):
        faults[stretch] = dice.choice(HOWS) if dice.random() < share else "whole"
    return faults, [opener for opener in openers(plan) if dice.random() < 0.5]


def random_cases(many):
    for seed in range(many):
        dice = random.Random(seed)
        plan = random_plan(seed)
        faults, gaps = random_case(dice, plan)
        yield dice, plan, faults, gaps


NO_STRETCHES = ODD_THINGS + [
    (0, 0), (0, 0, 0, 0), [0, 0, 0], (False, 0, 0), (0, False, 0), (0, 0, False), (0, True, 0), (0, None, 0),
    (0, "0", 0), ("0", 0, 0), (0, (0,), 0), ((0, 0, 0),), [(0, 0, 0)], (-1, 0, 0), (2, 0, 0), (0, -1, 0), (0, 7, 0),
    (0, 0, 1), (0, 1, 1), (0, 2, 2), (0, 4, 4), (0, 4, -1), (0, 3, 1), (0, 7, 1), (10 ** 5000, 0, 0), "(0, 0, 0)",
    (0, [0], 0), (0, 10 ** 5000, 0), (True, 0, 0), (1, 7, 0),
]
NO_SPOTS = NO_STRETCHES + [
    (0, 0, 0), (0, 3, 0), (0, 5, 0), (1, 1, 0), (1, 6, 0), (0, 2, True), (0, 1, False),
    [0, 1, 0], (0, 1), (0, 1, 0, 0), (True, 2, 0),
]
NO_OPENERS = ODD_THINGS + [
    [0, 0], (0,), (0, 0, 0), (False, 0), (0, False), (True, 0), (1, True), (0, 1), (0, 2), (0, 4), (0, 6), (0, 8),
    (0, -1), (-1, 0), (2, 0), (1, 2), (1, 5), (1, 8), (0, None), ("0", 0), (0, "3"), ((0, 3),), (10 ** 5000, 0),
    (0, [3]), (0, (3,)),
]


class Made(unittest.TestCase):
    def test_of_plans_that_are_let_by(self):
        for plan in (SMALLEST, ORDINARY, GREATEST, SMALL):
            wires = Wires(plan)
            self.assertEqual({wires.how(stretch) for stretch in stretches(plan)}, {"whole"})
            self.assertEqual(wires.there(), devices(plan))
            self.assertEqual(wires.parted(), [])
            self.assertIs(wires.rests(), True)
            self.assertEqual(wires.come_to_rest(), [])

    def test_of_other_plans_and_things(self):
        for thing in ODD_THINGS + [
            plan_of([seeker(1), seeker(1)]), plan_of([seeker(1), seeker(2)], most=1),
            plan_of([seeker(1)], zones=[("a", (9,))]), plan_of([seeker(1)], zones=[("a", (1,)), ("b", (1,))]),
            list(SMALLEST), (SMALLEST,), plan_of([seeker(True)]), plan_of([OPENER]), SMALLEST[:2],
        ]:
            with self.assertRaises(NoPlan) as caught:
                Wires(thing)
            self.assertIs(type(caught.exception), NoPlan)


class Stretches(unittest.TestCase):
    def test_the_last_done_holds(self):
        for row in itertools.product(HOWS, repeat=3):
            wires = Wires(ORDINARY)
            for how in row:
                lay(wires, (0, 4, 2), how)
                self.assertEqual(wires.how((0, 4, 2)), how)

    def test_each_stretch_by_itself(self):
        for stretch in stretches(ORDINARY):
            wires = Wires(ORDINARY)
            for how in ("cut", "short", "whole", "short", "cut", "whole"):
                self.assertIsNone({"cut": wires.cut, "short": wires.short, "whole": wires.mend}[how](stretch))
                for other in stretches(ORDINARY):
                    self.assertEqual(wires.how(other), how if other == stretch else "whole")

    def test_many_in_any_order(self):
        dice = random.Random(3)
        wires = Wires(GREATEST)
        last = {stretch: "whole" for stretch in stretches(GREATEST)}
        for _ in range(500):
            stretch, how = dice.choice(list(last)), dice.choice(HOWS)
            lay(wires, stretch, how)
            last[stretch] = how
            self.assertEqual({stretch: wires.how(stretch) for stretch in last}, last)

    def test_stretches_move_no_opener(self):
        wires = Wires(ORDINARY)
        for stretch in stretches(ORDINARY):
            wires.short(stretch)
            self.assertEqual(wires.parted(), [])

    def test_what_is_no_stretch(self):
        wires = wires_with(ORDINARY, {(0, 2, 0): "cut", (1, 3, 0): "short"}, [(0, 3)])
        before = all_told(wires, ORDINARY)
        for thing in NO_STRETCHES:
            for ask in (wires.cut, wires.short, wires.mend, wires.how):
                copied = copy.deepcopy(thing)
                with self.assertRaises(NoStretch) as caught:
                    ask(thing)
                self.assertIs(type(caught.exception), NoStretch)
                self.assertEqual(thing, copied)
        self.assertEqual(all_told(wires, ORDINARY), before)


class Devices(unittest.TestCase):
    def test_taken_out_and_put_in(self):
        wires = Wires(ORDINARY)
        self.assertIsNone(wires.take_out((0, 4, 2)))
        self.assertEqual(wires.there(), [row for row in devices(ORDINARY) if row[0] != (0, 4, 2)])
        self.assertIsNone(wires.put_in((0, 4, 2), "knob", 77))
        self.assertIn(((0, 4, 2), "knob", 77), wires.there())
        self.assertEqual([row[0] for row in wires.there()], [row[0] for row in devices(ORDINARY)])

    def test_out_where_none_is(self):
        wires = Wires(SMALL)
        wires.take_out((0, 1, 0))
        wires.take_out((0, 1, 0))
        self.assertEqual(wires.there(), [((0, 1, 1), "bell", 2), ((0, 3, 0), "seeker", 3)])
        wires.put_in((0, 1, 0), "door", 99)
        self.assertEqual(wires.there()[0], ((0, 1, 0), "door", 99))

    def test_in_where_one_is_and_with_anothers_address(self):
        wires = Wires(SMALL)
        wires.put_in((0, 3, 0), "knob", 1)
        self.assertEqual(wires.there(), [((0, 1, 0), "seeker", 1), ((0, 1, 1), "bell", 2), ((0, 3, 0), "knob", 1)])
        wires.put_in((0, 3, 0), "knob", 2)
        wires.put_in((0, 3, 0), "seeker", 3)
        self.assertEqual(wires.there(), devices(SMALL))

    def test_many_in_any_order(self):
        dice = random.Random(4)
        wires = Wires(ORDINARY)
        last = {spot: (kind, address) for spot, kind, address in devices(ORDINARY)}
        for _ in range(500):
            spot = dice.choice(list(last))
            last[spot] = None
            if dice.random() < 0.5:
                last[spot] = (dice.choice(("seeker", "knob", "bell", "door")), dice.randint(1, 99))
                wires.put_in(spot, *last[spot])
            else:
                wires.take_out(spot)
            self.assertEqual(wires.there(), [(spot,) + held for spot, held in sorted(last.items()) if held])

    def test_what_is_no_spot(self):
        wires = wires_with(ORDINARY, {(0, 2, 0): "cut"})
        wires.take_out((0, 1, 0))
        wires.put_in((0, 6, 0), "knob", 5)
        before = all_told(wires, ORDINARY)
        for thing in NO_SPOTS:
            copied = copy.deepcopy(thing)
            with self.assertRaises(NoSpot) as caught:
                wires.take_out(thing)
            self.assertIs(type(caught.exception), NoSpot)
            with self.assertRaises(NoSpot) as caught:
                wires.put_in(thing, "seeker", 50)
            self.assertIs(type(caught.exception), NoSpot)
            self.assertEqual(thing, copied)
        self.assertEqual(all_told(wires, ORDINARY), before)


class Openers(unittest.TestCase):
    def acted(self, plan, faults, gaps, opener):
        """Whether the opener is parted behind its act; that it alone changed, and said so, is seen to."""
        wires = wires_with(plan, faults, gaps)
        changed = wires.act(opener)
        behind = wires.parted()
        self.assertIs(changed, (opener in behind) != (opener in gaps))
        self.assertEqual(set(behind) - {opener}, set(gaps) - {opener})
        return opener in behind

    def test_ends_and_places_part_by_a_short(self):
        for opener in openers(SMALL):
            self.assertTrue(self.acted(SMALL, {(0, 1, 0): "short"}, [], opener))
            self.assertTrue(self.acted(SMALL, {(0, 1, 1): "short"}, [], opener))
            self.assertTrue(self.acted(SMALL, {(0, 3, 0): "short"}, [], opener))
            self.assertFalse(self.acted(SMALL, {}, [], opener))

    def test_a_parted_opener_is_not_passed(self):
        self.assertFalse(self.acted(SMALL, {(0, 3, 0): "short"}, [(0, 2)], (0, 0)))
        self.assertTrue(self.acted(SMALL, {(0, 3, 0): "short"}, [(0, 2)], (0, 4)))
        self.assertFalse(self.acted(SMALL, {(0, 0, 0): "short"}, [(0, 2)], (0, 4)))
        self.assertTrue(self.acted(SMALL, {(0, 0, 0): "short"}, [(0, 2)], (0, 0)))

    def test_a_cut_stretch_is_not_come_to(self):
        self.assertFalse(self.acted(SMALL, {(0, 0, 0): "cut", (0, 1, 0): "short"}, [], (0, 0)))
        self.assertTrue(self.acted(SMALL, {(0, 0, 0): "cut", (0, 1, 0): "short"}, [], (0, 2)))
        self.assertFalse(self.acted(LONGER, {(0, 3, 1): "cut"}, [], (0, 2)))
        spur = plan_of([seeker(1, ("bell", 2), ("bell", 3))])
        self.assertFalse(self.acted(spur, {(0, 1, 1): "cut", (0, 1, 2): "short"}, [], (0, 0)))
        self.assertTrue(self.acted(spur, {(0, 1, 1): "short", (0, 1, 2): "cut"}, [], (0, 0)))
        self.assertTrue(self.acted(spur, {(0, 1, 2): "short"}, [], (0, 2)))

    def test_a_parted_one_sees_both_of_its_sides(self):
        for stretch in ((0, 1, 0), (0, 0, 0), (0, 2, 0), (0, 3, 0)):
            self.assertTrue(self.acted(SMALL, {stretch: "short"}, [(0, 2)], (0, 2)))
        self.assertFalse(self.acted(SMALL, {}, [(0, 2)], (0, 2)))

    def test_closed_again_behind_a_mend_or_a_cut(self):
        for done in ("mend", "cut"):
            wires = Wires(SMALL)
            wires.short((0, 1, 0))
            self.assertIs(wires.act((0, 2)), True)
            self.assertIs(wires.act((0, 2)), False)
            self.assertEqual(wires.parted(), [(0, 2)])
            getattr(wires, done)((0, 1, 0))
            self.assertIs(wires.act((0, 2)), True)
            self.assertIs(wires.act((0, 2)), False)
            self.assertEqual(wires.parted(), [])

    def test_loops_touch_nothing_of_one_another(self):
        plan = plan_of([seeker(1)], [seeker(2)])
        wires = Wires(plan)
        wires.short((1, 0, 0))
        self.assertEqual([wires.act(opener) for opener in openers(plan)], [False, False, True, True])

    def test_each_act_as_a_search_tells(self):
        for plan in (SMALL, plan_of([OPENER, OPENER, seeker(1)])):
            for faults, gaps in every_case(plan):
                graph = Graph(plan, faults, gaps)
                wires = wires_with(plan, faults, gaps)
                self.assertEqual(wires.parted(), list(gaps))
                would = [opener for opener in openers(plan) if graph.parts_by_act(opener)]
                self.assertIs(wires.rests(), would == list(gaps))
                for opener in openers(plan):
                    self.assertEqual(self.acted(plan, faults, gaps, opener), opener in would)

    def test_each_act_as_a_search_tells_on_greater_plans(self):
        for dice, plan, faults, gaps in random_cases(150):
            graph = Graph(plan, faults, gaps)
            would = [opener for opener in openers(plan) if graph.parts_by_act(opener)]
            self.assertIs(wires_with(plan, faults, gaps).rests(), would == gaps)
            for opener in openers(plan):
                self.assertEqual(self.acted(plan, faults, gaps, opener), opener in would)

    def test_what_is_no_opener(self):
        wires = wires_with(ORDINARY, {(0, 2, 0): "short"}, [(1, 3)])
        before = all_told(wires, ORDINARY)
        for thing in NO_OPENERS:
            copied = copy.deepcopy(thing)
            with self.assertRaises(NoOpener) as caught:
                wires.act(thing)
            self.assertIs(type(caught.exception), NoOpener)
            self.assertEqual(thing, copied)
        self.assertEqual(all_told(wires, ORDINARY), before)


class Rest(unittest.TestCase):
    def check_row(self, plan, faults, gaps):
        """The row of acts is one by point 10; told is what is parted behind it."""
        wires = wires_with(plan, faults, gaps)
        same = wires_with(plan, faults, gaps)
        row = wires.come_to_rest()
        self.assertIsInstance(row, list)
        self.assertEqual(len(row), len(set(row)))
        for opener in row:
            self.assertIs(same.act(opener), True)
        self.assertIs(same.rests(), True)
        self.assertIs(wires.rests(), True)
        self.assertEqual(wires.parted(), same.parted())
        self.assertEqual(wires.come_to_rest(), [])
        self.assertEqual([wires.act(opener) for opener in openers(plan)], [False] * len(openers(plan)))
        return wires.parted()

    def check_rounds(self, plan, faults, gaps, rest, orders):
        for first, second in orders:
            wires = wires_with(plan, faults, gaps)
            for opener in list(first) + list(second):
                wires.act(opener)
            self.assertIs(wires.rests(), True)
            self.assertEqual(wires.parted(), rest)

    def test_ordinary_rows(self):
        wires = Wires(ORDINARY)
        wires.short((0, 4, 2))
        self.assertIs(wires.rests(), False)
        self.assertEqual(sorted(wires.come_to_rest()), [(0, 3), (0, 5)])
        self.assertEqual(wires.parted(), [(0, 3), (0, 5)])
        wires.mend((0, 4, 2))
        wires.short((0, 1, 0))
        self.assertIs(wires.rests(), False)
        self.assertEqual(sorted(wires.come_to_rest()), [(0, 0), (0, 5)])
        self.assertEqual(wires.parted(), [(0, 0), (0, 3)])

    def test_every_case_of_small_plans(self):
        for plan in (SMALL, plan_of([seeker(1), OPENER, OPENER])):
            dice = random.Random(5)
            turns = list(itertools.permutations(openers(plan)))
            for faults, gaps in every_case(plan):
                rest = self.check_row(plan, faults, gaps)
                orders = [[dice.choice(turns), dice.choice(turns)] for _ in range(3)]
                self.check_rounds(plan, faults, gaps, rest, orders)

    def test_every_order_of_two_rounds(self):
        turns = list(itertools.permutations(openers(LONGER)))
        dice = random.Random(6)
        for _ in range(12):
            faults, gaps = random_case(dice, LONGER)
            rest = self.check_row(LONGER, faults, gaps)
            self.check_rounds(LONGER, faults, gaps, rest, itertools.product(turns, repeat=2))

    def test_greater_plans(self):
        for dice, plan, faults, gaps in random_cases(200):
            rest = self.check_row(plan, faults, gaps)
            row = openers(plan)
            orders = [(row, row), (row[::-1], row), (row, row[::-1])]
            orders += [(dice.sample(row, len(row)), dice.sample(row, len(row))) for _ in range(5)]
            self.check_rounds(plan, faults, gaps, rest, orders)

    def test_rest_does_not_hang_on_what_was_before(self):
        for dice, plan, faults, gaps in random_cases(100):
            wires = Wires(plan)
            for _ in range(30):
                lay(wires, dice.choice(stretches(plan)), dice.choice(HOWS))
                wires.act(dice.choice(openers(plan)))
            for stretch in stretches(plan):
                lay(wires, stretch, faults[stretch])
            wires.come_to_rest()
            self.assertEqual(wires.parted(), self.check_row(plan, faults, []))


class Heard(unittest.TestCase):
    def test_all_whole(self):
        for plan in (SMALLEST, ORDINARY, GREATEST):
            wires = Wires(plan)
            for loop in range(len(plan[1])):
                spots = [spot for part in parts(plan, loop) for spot in part]
                self.assertEqual(wires.heard(loop, "A"), spots)
                self.assertEqual(wires.heard(loop, "B"), spots)

    def test_a_cut(self):
        wires = Wires(ORDINARY)
        wires.cut((0, 2, 0))
        self.assertEqual(wires.heard(0, "A"), [(0, 1, 0), (0, 2, 0), (0, 2, 1)])
        self.assertEqual(wires.heard(0, "B"), [(0, 4, 0), (0, 4, 1), (0, 4, 2), (0, 4, 3), (0, 6, 0)])
        self.assertEqual(wires.heard(1, "A"), [(1, 2, 0), (1, 5, 0)])
        wires.cut((0, 4, 2))
        self.assertEqual(wires.heard(0, "B"), [(0, 4, 0), (0, 4, 1), (0, 6, 0)])
        wires.cut((0, 0, 0))
        self.assertEqual(wires.heard(0, "A"), [])

    def test_a_short_ahead_of_rest_and_at_rest(self):
        wires = Wires(ORDINARY)
        wires.short((0, 4, 3))
        self.assertEqual(wires.heard(0, "A"), [])
        self.assertEqual(wires.heard(0, "B"), [])
        self.assertEqual(wires.heard(1, "B"), [(1, 2, 0), (1, 5, 0)])
        wires.act((0, 3))
        self.assertEqual(wires.heard(0, "A"), [(0, 1, 0), (0, 2, 0), (0, 2, 1)])
        self.assertEqual(wires.heard(0, "B"), [])
        wires.come_to_rest()
        self.assertEqual(wires.heard(0, "A"), [(0, 1, 0), (0, 2, 0), (0, 2, 1)])
        self.assertEqual(wires.heard(0, "B"), [(0, 6, 0)])

    def test_a_short_behind_a_cut_is_not_come_to(self):
        wires = Wires(ORDINARY)
        wires.cut((0, 4, 1))
        wires.short((0, 4, 2))
        self.assertEqual(wires.heard(0, "A"), [(0, 1, 0), (0, 2, 0), (0, 2, 1), (0, 4, 0), (0, 6, 0)])

    def test_an_ends_own_opener_that_is_parted(self):
        wires = Wires(SMALL)
        wires.short((0, 0, 0))
        wires.act((0, 0))
        wires.mend((0, 0, 0))
        self.assertEqual(wires.heard(0, "A"), [])
        self.assertEqual(wires.heard(0, "B"), [(0, 1, 0), (0, 1, 1), (0, 3, 0)])
        wires.act((0, 0))
        self.assertEqual(wires.heard(0, "A"), [(0, 1, 0), (0, 1, 1), (0, 3, 0)])

    def test_devices_taken_out_and_put_in(self):
        wires = Wires(SMALL)
        wires.take_out((0, 1, 0))
        self.assertEqual(wires.heard(0, "A"), [(0, 1, 1), (0, 3, 0)])
        self.assertEqual(wires.heard(0, "B"), [(0, 1, 1), (0, 3, 0)])
        wires.take_out((0, 3, 0))
        wires.take_out((0, 1, 1))
        self.assertEqual(wires.heard(0, "B"), [])
        wires.put_in((0, 1, 1), "knob", 2)
        self.assertEqual(wires.heard(0, "A"), [(0, 1, 1)])

    def test_as_a_search_tells(self):
        for dice, plan, faults, gaps in random_cases(300):
            wires = wires_with(plan, faults, gaps)
            out = [spot for spot, kind, address in devices(plan) if dice.random() < 0.2]
            for spot in out:
                wires.take_out(spot)
            for rest in (False, True):
                if rest:
                    wires.come_to_rest()
                graph = Graph(plan, faults, wires.parted())
                for loop, end in itertools.product(range(len(plan[1])), "AB"):
                    spots = [spot for spot in graph.heard(loop, end) if spot not in out]
                    self.assertEqual(wires.heard(loop, end), spots)

    def test_every_case_of_a_small_plan(self):
        for faults, gaps in every_case(SMALL):
            wires = wires_with(SMALL, faults, gaps)
            graph = Graph(SMALL, faults, gaps)
            for end in "AB":
                self.assertEqual(wires.heard(0, end), graph.heard(0, end))

    def test_at_rest_heard_where_a_way_leads(self):
        for dice, plan, faults, gaps in random_cases(200):
            wires = wires_with(plan, faults, gaps)
            wires.come_to_rest()
            graph = Graph(plan, faults, wires.parted())
            for loop, end in itertools.product(range(len(plan[1])), "AB"):
                self.assertEqual(wires.heard(loop, end), graph.ways(loop, end))

    def test_one_fault_silences_no_more_than_it_must(self):
        for plan in [ORDINARY, GREATEST, SMALL, LONGER] + [random_plan(seed) for seed in range(20)]:
            for stretch, how in itertools.product(stretches(plan), ("cut", "short")):
                wires = Wires(plan)
                lay(wires, stretch, how)
                wires.come_to_rest()
                silent = {spot for spot, kind, address in devices(plan)}
                for loop, end in itertools.product(range(len(plan[1])), "AB"):
                    silent -= set(wires.heard(loop, end))
                self.assertEqual(silent, self.silenced(plan, stretch, how))

    def silenced(self, plan, stretch, how):
        loop, at, piece = stretch
        if how == "cut":
            spots = [spot for spot, kind, address in devices(plan)]
            return {spot for spot in spots if piece and spot[:2] == (loop, at) and spot[2] >= piece}
        ahead = max(place for one, place in openers(plan) if one == loop and place <= at)
        behind = min(place for one, place in openers(plan) if one == loop and place > at)
        return {spot for part in parts(plan, loop) for spot in part if ahead < spot[1] < behind}

    def test_all_mended_is_heard_as_at_first(self):
        for dice, plan, faults, gaps in random_cases(50):
            wires = wires_with(plan, faults, gaps)
            wires.come_to_rest()
            for stretch in dice.sample(stretches(plan), len(stretches(plan))):
                wires.mend(stretch)
            for opener in dice.sample(openers(plan), len(openers(plan))):
                wires.act(opener)
            self.assertEqual(all_told(wires, plan), all_told(Wires(plan), plan))


class Shared(unittest.TestCase):
    def test_what_is_told_is_the_askers_own(self):
        wires = Wires(ORDINARY)
        wires.short((0, 1, 0))
        row = wires.come_to_rest()
        self.assertEqual(sorted(row), [(0, 0), (0, 3)])
        row.append((1, 0))
        for ask in (wires.there, wires.parted, lambda: wires.heard(0, "B"), lambda: wires.heard(1, "A")):
            told = ask()
            before = list(told)
            self.assertTrue(before)
            told.reverse()
            told.append("more")
            self.assertEqual(ask(), before)
        self.assertIs(wires.rests(), True)

    def test_what_was_told_stays(self):
        wires = Wires(ORDINARY)
        there, heard, parted = wires.there(), wires.heard(0, "A"), wires.parted()
        wires.short((0, 0, 0))
        row = wires.come_to_rest()
        wires.take_out((0, 1, 0))
        wires.mend((0, 0, 0))
        wires.come_to_rest()
        self.assertEqual(there, devices(ORDINARY))
        self.assertEqual(heard, [spot for part in parts(ORDINARY, 0) for spot in part])
        self.assertEqual(parted, [])
        self.assertEqual(sorted(row), [(0, 0), (0, 3)])

    def test_two_objects_share_nothing(self):
        one, other = Wires(ORDINARY), Wires(ORDINARY)
        before = all_told(other, ORDINARY)
        for stretch in stretches(ORDINARY):
            one.short(stretch)
        one.come_to_rest()
        one.take_out((0, 1, 0))
        one.put_in((0, 2, 0), "bell", 9)
        self.assertEqual(all_told(other, ORDINARY), before)
        self.assertEqual(all_told(Wires(ORDINARY), ORDINARY), before)

    def test_asking_changes_nothing(self):
        wires = wires_with(ORDINARY, {(0, 3, 0): "short", (1, 2, 0): "cut"}, [(1, 1)])
        before = all_told(wires, ORDINARY)
        for _ in range(3):
            self.assertEqual(all_told(wires, ORDINARY), before)


if __name__ == "__main__":
    unittest.main()
