"""Points 2, 4, 5, 6: what a plan is, what is on it, and what is wrong with it."""

import copy
import unittest

from samples import (
    GREATEST, KINDS, ODD_THINGS, OPENER, ORDINARY, SMALLEST, part_at, paths_of, plan_of, random_plan, seeker,
    with_part,
)
from warnloop.plans import devices, is_let_by, is_plan, openers, parts, stretches, wrong


def as_lists(thing):
    return [as_lists(part) for part in thing] if isinstance(thing, tuple) else thing


def zoned(*zones):
    return plan_of([seeker(1)], zones=zones)


class IsPlan(unittest.TestCase):
    def holds(self, thing):
        self.assertIs(is_plan(thing), True, thing)

    def fails(self, thing):
        self.assertIs(is_plan(thing), False, thing)

    def test_ordinary_plans(self):
        for plan in (SMALLEST, ORDINARY, GREATEST):
            self.holds(plan)
        for seed in range(50):
            self.holds(random_plan(seed))

    def test_plans_that_are_not_let_by_are_plans(self):
        self.holds(plan_of([seeker(1), seeker(1)]))
        self.holds(plan_of([seeker(1), seeker(2)], most=1))
        self.holds(zoned(("a", (9,))))

    def test_most(self):
        for most in (1, 30):
            self.holds(plan_of([seeker(1)], most=most))
        for most in (0, 31, -1, True, None, "1", (1,), 10 ** 5000):
            self.fails(plan_of([seeker(1)], most=most))

    def test_addresses_of_places_and_spurs(self):
        for address in (1, 99):
            self.holds(plan_of([seeker(address)]))
            self.holds(plan_of([seeker(5, ("bell", address))]))
        for address in (0, 100, -1, True, False, None, "1", (1,), [1], 10 ** 5000):
            self.fails(plan_of([seeker(address)]))
            self.fails(plan_of([seeker(5, ("bell", address))]))

    def test_kinds(self):
        for kind in KINDS:
            self.holds(plan_of([(kind, 1, ((kind, 2),))]))
        for kind in ("", "seek", "seekers", "Seeker", "seeker ", "panel", "opener", "zone", None, 1, True, ("seeker",)):
            self.fails(plan_of([(kind, 1, ())]))
            self.fails(plan_of([seeker(1, (kind, 2))]))

    def test_how_many_places(self):
        for many in (1, 12):
            self.holds(plan_of([seeker(n + 1) for n in range(many)]))
        for many in (0, 13):
            self.fails(plan_of([seeker(n + 1) for n in range(many)]))
        self.fails(plan_of([seeker(1)], []))
        self.fails(plan_of([seeker(1)], [OPENER] * 13))

    def test_how_many_loops(self):
        for many in (1, 2, 3):
            self.holds(plan_of(*[[seeker(n + 1)] for n in range(many)]))
        for many in (0, 4):
            self.fails(plan_of(*[[seeker(n + 1)] for n in range(many)]))

    def test_how_long_spurs(self):
        for many in (0, 1, 2, 3):
            self.holds(plan_of([seeker(9, *[("bell", n + 1) for n in range(many)])]))
        self.fails(plan_of([seeker(9, *[("bell", n + 1) for n in range(4)])]))

    def test_spurs_of_another_kind(self):
        for spur in (
            [], None, "", 0, (("bell",),), (("bell", 2, ()),), (["bell", 2],), ("bell", 2), ((),), [("bell", 2)],
        ):
            self.fails(plan_of([("seeker", 1, spur)]))

    def test_openers(self):
        self.holds(plan_of([OPENER, seeker(1), OPENER]))
        for place in (
            ("opener", 1, ()), ("opener", False, ()), ("opener", None, ()), ("opener", 0, (("bell", 2),)),
            ("opener", 0, []), ("opener", 0, None), ("opener", 0), ("opener",), ("opener", 0, (), ()), "opener",
            ["opener", 0, ()], ("opener", 0, ((),)), ("opener", 0, ""),
        ):
            self.fails(plan_of([seeker(1), place]))

    def test_how_many_devices(self):
        self.fails(plan_of([OPENER]))
        self.fails(plan_of([OPENER] * 12, [OPENER], [OPENER] * 3))
        self.holds(plan_of([seeker(1)]))
        thirty = [seeker(n * 4 + 1, *[("bell", n * 4 + k) for k in (2, 3, 4)]) for n in range(7)]
        self.holds(plan_of(thirty, [seeker(50), seeker(51)]))
        self.fails(plan_of(thirty, [seeker(50), seeker(51), seeker(52)]))
        self.fails(plan_of(thirty, [seeker(50), seeker(51, ("bell", 52))]))

    def test_how_many_zones(self):
        for many in (0, 1, 8):
            self.holds(zoned(*[("a" * (n + 1), (1,)) for n in range(many)]))
        self.fails(zoned(*[("a" * n, (1,)) for n in range(1, 9)], ("b", (1,))))

    def test_zones_of_one_name(self):
        self.fails(zoned(("a", (1,)), ("a", (1,))))
        self.fails(zoned(("a", (1,)), ("b", (2,)), ("a", (3,))))
        self.holds(zoned(("a", (1,)), ("b", (1,))))

    def test_names_of_zones(self):
        for name in ("a", "abcdefgh", "zone", "loop"):
            self.holds(zoned((name, (1,))))
        for name in ("", "abcdefghi", "A", "a1", "a b", "a\n", "a\t", "-", None, True, 1, ("a",), ["a"]):
            self.fails(zoned((name, (1,))))

    def test_addresses_of_zones(self):
        for row in ((1,), (99,), (1, 99), tuple(range(1, 31)), tuple(range(70, 100))):
            self.holds(zoned(("a", row)))
        for row in (
            (), tuple(range(1, 32)), (0,), (100,), (0, 1), (99, 100), (2, 1), (1, 1), (1, 3, 2), (1, 3, 3), (True,),
            (True, 2), [1], None, 1, "1", ((1,),), (1, None), (1, "2"), (None, 1), ("1", 2), (1, (2,)),
        ):
            self.fails(zoned(("a", row)))

    def test_zones_of_another_kind(self):
        for zone in ((), ("a",), ("a", (1,), ()), ["a", (1,)], "a", None, (("a", (1,)),), ((1,), "a")):
            self.fails(zoned(zone))

    def test_each_part_left_out_or_doubled(self):
        for plan in (SMALLEST, ORDINARY):
            for path in paths_of(plan)[1:]:
                above, at = part_at(plan, path[:-1]), path[-1]
                without = with_part(plan, path[:-1], above[:at] + above[at + 1:])
                doubled = with_part(plan, path[:-1], above[:at + 1] + above[at:])
                # A loop, a place, a spur's device, a zone, a zone's address: with one fewer it may be a plan still.
                if (path[0], len(path)) not in ((1, 2), (1, 3), (1, 5), (2, 2), (2, 4)):
                    self.fails(without)
                if (path[0], len(path)) not in ((1, 2), (1, 3), (1, 5)):
                    self.fails(doubled)

    def test_each_part_of_another_kind(self):
        for plan in (SMALLEST, ORDINARY):
            for path in paths_of(plan):
                self.fails(with_part(plan, path, None))
                self.fails(with_part(plan, path, True))
                self.fails(with_part(plan, path, []))
                self.fails(with_part(plan, path, -1))
                self.fails(with_part(plan, path, 10 ** 5000))
                self.fails(with_part(plan, path, ((),)))
                self.fails(with_part(plan, path, "no kind"))
                part = part_at(plan, path)
                if isinstance(part, tuple):
                    self.fails(with_part(plan, path, list(part)))
                else:
                    self.fails(with_part(plan, path, (part,)))
                    self.fails(with_part(plan, path, [part]))

    def test_true_for_one_anywhere(self):
        for plan in (SMALLEST, ORDINARY):
            for path in paths_of(plan):
                if part_at(plan, path) == 1:
                    self.fails(with_part(plan, path, True))
                if part_at(plan, path) == 0:
                    self.fails(with_part(plan, path, False))

    def test_other_things(self):
        for thing in ODD_THINGS:
            self.fails(thing)
            self.fails((thing, thing, thing))
            self.fails(SMALLEST + (thing,))
        self.fails(list(SMALLEST))
        self.fails(as_lists(SMALLEST))
        self.fails(SMALLEST[:2])
        self.fails((SMALLEST,))

    def test_what_is_handed_in_is_as_it_was(self):
        for thing in ODD_THINGS + [as_lists(ORDINARY), list(ORDINARY)]:
            before = copy.deepcopy(thing)
            is_plan(thing)
            self.assertEqual(thing, before)


class Told(unittest.TestCase):
    def test_devices(self):
        self.assertEqual(devices(SMALLEST), [((0, 1, 0), "seeker", 1)])
        self.assertEqual(devices(ORDINARY), [
            ((0, 1, 0), "seeker", 1), ((0, 2, 0), "knob", 2), ((0, 2, 1), "bell", 3), ((0, 4, 0), "door", 4),
            ((0, 4, 1), "seeker", 5), ((0, 4, 2), "seeker", 6), ((0, 4, 3), "bell", 7), ((0, 6, 0), "bell", 8),
            ((1, 2, 0), "seeker", 20), ((1, 5, 0), "knob", 10),
        ])

    def test_stretches(self):
        self.assertEqual(stretches(SMALLEST), [(0, 0, 0), (0, 1, 0)])
        self.assertEqual(stretches(ORDINARY), [
            (0, 0, 0), (0, 1, 0), (0, 2, 0), (0, 2, 1), (0, 3, 0), (0, 4, 0), (0, 4, 1), (0, 4, 2), (0, 4, 3),
            (0, 5, 0), (0, 6, 0),
            (1, 0, 0), (1, 1, 0), (1, 2, 0), (1, 3, 0), (1, 4, 0), (1, 5, 0), (1, 6, 0),
        ])

    def test_openers(self):
        self.assertEqual(openers(SMALLEST), [(0, 0), (0, 2)])
        self.assertEqual(openers(ORDINARY), [
            (0, 0), (0, 3), (0, 5), (0, 7), (1, 0), (1, 1), (1, 3), (1, 4), (1, 6), (1, 7),
        ])

    def test_parts(self):
        self.assertEqual(parts(SMALLEST, 0), [[(0, 1, 0)]])
        self.assertEqual(parts(ORDINARY, 0), [
            [(0, 1, 0), (0, 2, 0), (0, 2, 1)], [(0, 4, 0), (0, 4, 1), (0, 4, 2), (0, 4, 3)], [(0, 6, 0)],
        ])
        self.assertEqual(parts(ORDINARY, 1), [[], [(1, 2, 0)], [], [(1, 5, 0)], []])

    def test_a_loop_of_an_opener_alone(self):
        plan = plan_of([OPENER], [seeker(1)])
        self.assertEqual(parts(plan, 0), [[], []])
        self.assertEqual(openers(plan), [(0, 0), (0, 1), (0, 2), (1, 0), (1, 2)])
        self.assertEqual(stretches(plan), [(0, 0, 0), (0, 1, 0), (1, 0, 0), (1, 1, 0)])
        self.assertEqual(devices(plan), [((1, 1, 0), "seeker", 1)])

    def test_loops_of_twelve_places(self):
        self.assertEqual(len(devices(GREATEST)), 30)
        self.assertEqual(parts(GREATEST, 0), [[(0, n, 0) for n in range(1, 13)]])
        self.assertEqual(parts(GREATEST, 1), [[] for _ in range(11)] + [[(1, 12, n) for n in range(4)]])
        self.assertEqual(len(parts(GREATEST, 2)), 1)
        self.assertEqual(openers(GREATEST), (
            [(0, 0), (0, 13)] + [(1, n) for n in range(12)] + [(1, 13), (2, 0), (2, 8)]
        ))
        self.assertEqual([row for row in stretches(GREATEST) if row[0] == 1], (
            [(1, n, 0) for n in range(12)] + [(1, 12, 0), (1, 12, 1), (1, 12, 2), (1, 12, 3)]
        ))

    def test_of_plans_that_are_not_let_by(self):
        plan = plan_of([seeker(1, ("bell", 1)), seeker(1)], most=1)
        self.assertEqual(devices(plan), [
            ((0, 1, 0), "seeker", 1), ((0, 1, 1), "bell", 1), ((0, 2, 0), "seeker", 1),
        ])
        self.assertEqual(parts(plan, 0), [[(0, 1, 0), (0, 1, 1), (0, 2, 0)]])
        self.assertEqual(stretches(plan), [(0, 0, 0), (0, 1, 0), (0, 1, 1), (0, 2, 0)])

    def test_order_and_sums_of_many_plans(self):
        for seed in range(100):
            plan = random_plan(seed)
            spots = [spot for spot, kind, address in devices(plan)]
            for row in (spots, stretches(plan), openers(plan)):
                self.assertEqual(row, sorted(set(row)))
            joined = []
            for loop in range(len(plan[1])):
                row = parts(plan, loop)
                self.assertEqual(len(row), len([one for one in openers(plan) if one[0] == loop]) - 1)
                joined.extend([spot for part in row for spot in part])
            self.assertEqual(joined, spots)
            wires = [(loop, at, 0) for loop, row in enumerate(plan[1]) for at in range(len(row) + 1)]
            self.assertEqual(stretches(plan), sorted(wires + [spot for spot in spots if spot[2] > 0]))

    def test_what_is_told_is_the_askers_own(self):
        for ask in (devices, stretches, openers, lambda plan: parts(plan, 0)):
            first = ask(ORDINARY)
            before = copy.deepcopy(first)
            first.reverse()
            if isinstance(first[0], list):
                first[0].append("more")
            first.append("more")
            self.assertEqual(ask(ORDINARY), before)
            self.assertIsNot(ask(ORDINARY), ask(ORDINARY))
        row = parts(ORDINARY, 1)
        row[0].append("more")
        self.assertEqual(row[2], [])
        self.assertEqual(parts(ORDINARY, 1)[0], [])

    def test_kinds_of_what_is_told(self):
        for told in (devices(ORDINARY), stretches(ORDINARY), openers(ORDINARY)):
            self.assertIsInstance(told, list)
            for part in told:
                self.assertIsInstance(part, tuple)
        for part in parts(ORDINARY, 0):
            self.assertIsInstance(part, list)
            for spot in part:
                self.assertIsInstance(spot, tuple)


class Wrong(unittest.TestCase):
    def test_nothing(self):
        for plan in (SMALLEST, ORDINARY, GREATEST):
            self.assertIsNone(wrong(plan))
        for seed in range(100):
            self.assertIsNone(wrong(random_plan(seed)))

    def test_twice(self):
        self.assertEqual(wrong(plan_of([seeker(1), ("bell", 1, ())])), ("twice", 1))
        self.assertEqual(wrong(plan_of([seeker(1, ("bell", 1))])), ("twice", 1))
        self.assertEqual(wrong(plan_of([seeker(1)], [seeker(2), OPENER], [seeker(1)])), ("twice", 1))

    def test_the_first_device_whose_address_one_ahead_has(self):
        self.assertEqual(wrong(plan_of([seeker(n) for n in (1, 2, 2, 1)])), ("twice", 2))
        self.assertEqual(wrong(plan_of([seeker(n) for n in (9, 3, 9, 3, 3)])), ("twice", 9))
        self.assertEqual(wrong(plan_of([seeker(5, ("bell", 6), ("bell", 7)), seeker(7)], [seeker(6)])), ("twice", 7))

    def test_crowded(self):
        self.assertEqual(wrong(plan_of([seeker(1), seeker(2)], most=1)), ("crowded", 0, 0))
        self.assertIsNone(wrong(plan_of([seeker(1), OPENER, seeker(2)], most=1)))
        self.assertEqual(wrong(plan_of([seeker(1, ("bell", 2))], most=1)), ("crowded", 0, 0))
        self.assertIsNone(wrong(plan_of([seeker(1, ("bell", 2))], most=2)))

    def test_the_first_crowded_part_of_the_first_loop(self):
        loops = ([OPENER, seeker(1)], [seeker(2), OPENER, OPENER, seeker(3), seeker(4)], [seeker(5), seeker(6)])
        self.assertEqual(wrong(plan_of(*loops, most=1)), ("crowded", 1, 2))
        self.assertIsNone(wrong(plan_of(*loops, most=2)))
        two = [seeker(1), OPENER, seeker(2), seeker(3), OPENER, seeker(4), seeker(5), seeker(6)]
        self.assertEqual(wrong(plan_of(two, most=1)), ("crowded", 0, 1))
        self.assertEqual(wrong(plan_of(two, most=2)), ("crowded", 0, 2))
        self.assertIsNone(wrong(plan_of(two, most=3)))

    def test_crowded_by_thirty(self):
        loop = [seeker(n * 4 + 1, *[("bell", n * 4 + k) for k in (2, 3, 4)]) for n in range(7)] + [seeker(40)]
        self.assertEqual(wrong(plan_of(loop, most=28)), ("crowded", 0, 0))
        self.assertIsNone(wrong(plan_of(loop, most=29)))

    def test_stranger(self):
        self.assertEqual(wrong(zoned(("a", (2,)))), ("stranger", "a", 2))
        self.assertEqual(wrong(zoned(("a", (1, 5, 9)))), ("stranger", "a", 5))
        mixed = [seeker(1, ("knob", 2), ("bell", 3)), ("door", 4, ()), ("knob", 5, ()), ("bell", 6, (("seeker", 7),))]
        self.assertIsNone(wrong(plan_of(mixed, zones=[("a", (1, 2)), ("b", (5, 7))])))
        for address in (3, 4, 6, 8):
            plan = plan_of(mixed, zones=[("b", (1, 2)), ("a", (address,))])
            self.assertEqual(wrong(plan), ("stranger", "a", address))

    def test_the_first_zone_with_a_stranger(self):
        zones = [("c", (1,)), ("b", (7, 8)), ("a", (2, 3))]
        self.assertEqual(wrong(zoned(*zones)), ("stranger", "b", 7))

    def test_shared(self):
        loop = [seeker(n) for n in range(1, 6)]
        self.assertEqual(wrong(plan_of(loop, zones=[("a", (1, 2)), ("b", (2, 3))])), ("shared", "b", 2))
        zones = [("d", (5,)), ("c", (1, 2)), ("b", (3,)), ("a", (2, 4, 5)), ("e", (1,))]
        self.assertEqual(wrong(plan_of(loop, zones=zones)), ("shared", "a", 2))
        self.assertIsNone(wrong(plan_of(loop, zones=zones[:3])))

    def test_several_at_once(self):
        loop = [seeker(1), seeker(2), seeker(2)]
        fair = [seeker(1), seeker(2), seeker(3)]
        strange = [("a", (1,)), ("b", (1, 9))]
        shared = [("a", (1,)), ("b", (1,))]
        self.assertEqual(wrong(plan_of(loop, most=1, zones=strange)), ("twice", 2))
        self.assertEqual(wrong(plan_of(fair, most=1, zones=strange)), ("crowded", 0, 0))
        self.assertEqual(wrong(plan_of(fair, zones=strange)), ("stranger", "b", 9))
        self.assertEqual(wrong(plan_of(fair, zones=shared)), ("shared", "b", 1))
        self.assertEqual(wrong(plan_of(loop, zones=shared)), ("twice", 2))
        self.assertEqual(wrong(plan_of(fair, most=2, zones=shared)), ("crowded", 0, 0))
        # A shared address ahead of a stranger: the stranger is told all the same.
        self.assertEqual(wrong(plan_of(fair, zones=shared + [("c", (9,))])), ("stranger", "c", 9))

    def test_a_crowded_first_loop_stands_behind_twice_in_the_last(self):
        plan = plan_of([seeker(1), seeker(2)], [seeker(3)], [seeker(3)], most=1)
        self.assertEqual(wrong(plan), ("twice", 3))

    def test_let_by(self):
        self.assertIs(is_let_by(ORDINARY), True)
        self.assertIs(is_let_by(plan_of([seeker(1), seeker(1)])), False)
        for thing in ODD_THINGS:
            self.assertIs(is_let_by(thing), False)


if __name__ == "__main__":
    unittest.main()
