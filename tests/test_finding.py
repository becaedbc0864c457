"""Points 3, 34, 35: what is heard with faults, and which faults agree with it."""

import copy
import itertools
import random
import unittest

from graph import Graph, rest_of
from samples import GREATEST, NO_PLANS, OPENER, ORDINARY, SMALLEST, plan_of, random_plan, seeker
from warnloop.errors import HouseError, NoPlan
from warnloop.finding import agreeing, heard_with, told_place
from warnloop.plans import devices, stretches
from warnloop.wires import Wires

# Two places and a spur around an opener: six stretches, so two faults may be asked for.
SMALL = plan_of([seeker(1, ("bell", 2)), OPENER, seeker(3), seeker(4)])
NO_OPENER = plan_of([seeker(1), seeker(2, ("bell", 3)), seeker(4)])


def faults_of(plan, loop):
    return [(stretch, how) for stretch in stretches(plan) if stretch[0] == loop for how in ("cut", "short")]


def heard_by_search(plan, loop, faults):
    """What is heard by a search in a graph, all at rest."""
    graph = Graph(plan, dict(faults), rest_of(plan, faults))
    return (tuple(graph.heard(loop, "A")), tuple(graph.heard(loop, "B")))


def sets_of(plan, loop, most):
    """Each set of at most so many faults of unlike stretches, as rising tuples."""
    told = []
    for many in range(most + 1):
        for some in itertools.combinations(faults_of(plan, loop), many):
            if len({stretch for stretch, _ in some}) == many:
                told.append(tuple(sorted(some)))
    return sorted(told, key=lambda some: (len(some), some))


def spots_of(plan, loop):
    return tuple(spot for spot, _, _ in devices(plan) if spot[0] == loop)


class HeardWith(unittest.TestCase):
    def test_no_fault(self):
        for plan in (SMALLEST, SMALL, ORDINARY, GREATEST):
            for loop in range(len(plan[1])):
                self.assertEqual(heard_with(plan, loop, ()), (spots_of(plan, loop),) * 2)

    def test_one_cut(self):
        self.assertEqual(heard_with(SMALL, 0, (((0, 1, 0), "cut"),)),
                         (((0, 1, 0), (0, 1, 1)), ((0, 3, 0), (0, 4, 0))))
        self.assertEqual(heard_with(SMALL, 0, (((0, 0, 0), "cut"),)), ((), spots_of(SMALL, 0)))
        self.assertEqual(heard_with(SMALL, 0, (((0, 4, 0), "cut"),)), (spots_of(SMALL, 0), ()))
        self.assertEqual(heard_with(SMALL, 0, (((0, 1, 1), "cut"),)), (((0, 1, 0), (0, 3, 0), (0, 4, 0)),) * 2)

    def test_one_short(self):
        self.assertEqual(heard_with(SMALL, 0, (((0, 1, 1), "short"),)), ((), ((0, 3, 0), (0, 4, 0))))
        self.assertEqual(heard_with(SMALL, 0, (((0, 4, 0), "short"),)), (((0, 1, 0), (0, 1, 1)), ()))
        self.assertEqual(heard_with(NO_OPENER, 0, (((0, 2, 0), "short"),)), ((), ()))

    def test_several(self):
        self.assertEqual(heard_with(SMALL, 0, (((0, 1, 0), "cut"), ((0, 3, 0), "cut"))),
                         (((0, 1, 0), (0, 1, 1)), ((0, 4, 0),)))
        self.assertEqual(heard_with(SMALL, 0, (((0, 1, 1), "cut"), ((0, 4, 0), "short"))), (((0, 1, 0),), ()))
        self.assertEqual(heard_with(SMALL, 0, (((0, 0, 0), "cut"), ((0, 1, 0), "short"), ((0, 4, 0), "cut"))),
                         ((), ()))

    def test_only_this_loop_is_told(self):
        faults = (((1, 0, 0), "cut"),)
        self.assertEqual(heard_with(ORDINARY, 1, faults), ((), spots_of(ORDINARY, 1)))
        self.assertEqual(heard_with(ORDINARY, 0, faults), (spots_of(ORDINARY, 0),) * 2)

    def test_each_single_fault_as_a_search_tells(self):
        for plan in (SMALL, NO_OPENER, ORDINARY):
            for loop in range(len(plan[1])):
                for fault in faults_of(plan, loop):
                    self.assertEqual(heard_with(plan, loop, (fault,)), heard_by_search(plan, loop, (fault,)))

    def test_many_faults_as_a_search_tells(self):
        for seed in range(150):
            dice, plan = random.Random(seed), random_plan(seed)
            loop = dice.randrange(len(plan[1]))
            share = dice.random()
            faults = tuple((stretch, dice.choice(("cut", "short"))) for stretch in stretches(plan)
                           if stretch[0] == loop and dice.random() < share)
            told = heard_with(plan, loop, faults)
            self.assertEqual(told, heard_by_search(plan, loop, faults))
            self.assertIs(type(told), tuple)
            self.assertEqual([type(part) for part in told], [tuple, tuple])

    def test_as_wires_tell(self):
        for seed in range(60):
            dice, plan = random.Random(seed), random_plan(seed)
            wires, done = Wires(plan), {}
            for _ in range(6):
                stretch, how = dice.choice(stretches(plan)), dice.choice(("cut", "short", "mend"))
                {"cut": wires.cut, "short": wires.short, "mend": wires.mend}[how](stretch)
                done[stretch] = how
            wires.come_to_rest()
            for loop in range(len(plan[1])):
                faults = tuple((stretch, how) for stretch, how in sorted(done.items())
                               if how != "mend" and stretch[0] == loop)
                self.assertEqual(heard_with(plan, loop, faults),
                                 (tuple(wires.heard(loop, "A")), tuple(wires.heard(loop, "B"))))


class Agreeing(unittest.TestCase):
    def by_search(self, plan, loop, heard, most):
        return [some for some in sets_of(plan, loop, most) if heard_by_search(plan, loop, some) == heard]

    def test_none_one_and_two(self):
        whole = heard_with(SMALL, 0, ())
        self.assertEqual(agreeing(SMALL, 0, *whole, 0), [()])
        self.assertEqual(agreeing(SMALL, 0, *whole, 1), [()])
        self.assertEqual(agreeing(SMALL, 0, *whole, 2), [()])
        cut = heard_with(SMALL, 0, (((0, 1, 0), "cut"),))
        self.assertEqual(agreeing(SMALL, 0, *cut, 0), [])
        self.assertEqual(agreeing(SMALL, 0, *cut, 1), [(((0, 1, 0), "cut"),), (((0, 2, 0), "cut"),)])
        self.assertEqual(agreeing(SMALL, 0, *cut, 2), [
            (((0, 1, 0), "cut"),), (((0, 2, 0), "cut"),), (((0, 1, 0), "cut"), ((0, 2, 0), "cut")),
        ])

    def test_two_that_no_single_one_tells(self):
        faults = (((0, 1, 1), "cut"), ((0, 4, 0), "cut"))
        heard = heard_with(SMALL, 0, faults)
        self.assertEqual(agreeing(SMALL, 0, *heard, 1), [])
        self.assertEqual(agreeing(SMALL, 0, *heard, 2), [faults])

    def test_what_no_faults_tell(self):
        for heard in (
            (((0, 3, 0),), ((0, 1, 0),)), (spots_of(SMALL, 0), ((0, 4, 0),)), (((0, 1, 1),), ()),
        ):
            self.assertEqual(agreeing(SMALL, 0, *heard, 2), [])

    def test_spots_of_another_loop(self):
        self.assertEqual(agreeing(ORDINARY, 0, *heard_with(ORDINARY, 1, ()), 1), [])
        self.assertEqual(agreeing(ORDINARY, 1, *heard_with(ORDINARY, 1, ()), 1), [()])

    def test_all_that_a_search_finds_in_its_order(self):
        plans = (SMALL, NO_OPENER, plan_of([OPENER, seeker(1), OPENER]), plan_of([seeker(1, ("bell", 2))]))
        for plan in plans:
            found = {}
            for some in sets_of(plan, 0, 2):
                found.setdefault(heard_by_search(plan, 0, some), []).append(some)
            for heard, sets in found.items():
                for most in (0, 1, 2):
                    told = agreeing(plan, 0, *heard, most)
                    self.assertIs(type(told), list)
                    self.assertEqual(told, [some for some in sets if len(some) <= most])

    def test_the_true_faults_are_among_them(self):
        for seed in range(60):
            dice, plan = random.Random(seed), random_plan(seed)
            loop = dice.randrange(len(plan[1]))
            faults = faults_of(plan, loop)
            most = 2 if len(faults) <= 16 else 1
            true = tuple(sorted(dict(dice.sample(faults, dice.randint(0, most))).items()))
            heard = heard_with(plan, loop, true)
            told = agreeing(plan, loop, *heard, most)
            self.assertIn(true, told)
            for some in told:
                self.assertEqual(heard_by_search(plan, loop, some), heard)
            self.assertEqual(told, sorted(told, key=lambda some: (len(some), some)))

    def test_eight_stretches(self):
        plan = plan_of([seeker(1), OPENER, seeker(2, ("bell", 3)), OPENER, seeker(4), seeker(5)])
        self.assertEqual(len(stretches(plan)), 8)
        for true in ((((0, 0, 0), "short"), ((0, 5, 0), "cut")), (((0, 3, 1), "short"), ((0, 6, 0), "cut"))):
            heard = heard_with(plan, 0, true)
            self.assertEqual(agreeing(plan, 0, *heard, 2), self.by_search(plan, 0, heard, 2))
            self.assertIn(true, agreeing(plan, 0, *heard, 2))

    def test_other_loops_are_whole(self):
        heard = heard_with(ORDINARY, 1, (((1, 3, 0), "short"),))
        self.assertEqual(agreeing(ORDINARY, 1, *heard, 1), self.by_search(ORDINARY, 1, heard, 1))


class ToldPlace(unittest.TestCase):
    def test_whole(self):
        for plan in (SMALLEST, SMALL, NO_OPENER, ORDINARY):
            for loop in range(len(plan[1])):
                self.assertEqual(told_place(plan, loop, *heard_with(plan, loop, ())), ("whole",))

    def test_some(self):
        heard = heard_with(SMALL, 0, (((0, 2, 0), "cut"),))
        self.assertEqual(told_place(SMALL, 0, *heard), ("some", [((0, 1, 0), "cut"), ((0, 2, 0), "cut")]))
        heard = heard_with(SMALL, 0, (((0, 1, 1), "cut"),))
        self.assertEqual(told_place(SMALL, 0, *heard), ("some", [((0, 1, 1), "cut")]))
        heard = heard_with(NO_OPENER, 0, (((0, 1, 0), "short"),))
        shorts = [(stretch, "short") for stretch in stretches(NO_OPENER)]
        self.assertEqual(told_place(NO_OPENER, 0, *heard), ("some", shorts))

    def test_more(self):
        for faults in ((((0, 1, 1), "cut"), ((0, 4, 0), "cut")), (((0, 0, 0), "short"), ((0, 3, 0), "cut"))):
            self.assertEqual(told_place(SMALL, 0, *heard_with(SMALL, 0, faults)), ("more",))
        self.assertEqual(told_place(SMALL, 0, ((0, 4, 0),), ((0, 1, 0),)), ("more",))

    def test_a_fault_that_changes_nothing_is_whole(self):
        plan = plan_of([seeker(1)], [OPENER, OPENER])
        for fault in faults_of(plan, 1):
            heard = heard_with(plan, 1, (fault,))
            self.assertEqual(heard, ((), ()))
            self.assertEqual(told_place(plan, 1, *heard), ("whole",))
            self.assertIn((fault,), agreeing(plan, 1, *heard, 1))

    def test_the_true_one_is_among_some(self):
        for plan in (SMALL, NO_OPENER, plan_of([OPENER, seeker(1)]), ORDINARY):
            for fault in faults_of(plan, 0):
                word, faults = told_place(plan, 0, *heard_with(plan, 0, (fault,)))
                self.assertEqual(word, "some")
                self.assertIn(fault, faults)
                self.assertEqual(faults, sorted(faults))

    def test_as_agreeing_tells(self):
        for seed in range(80):
            dice, plan = random.Random(seed), random_plan(seed)
            loop = dice.randrange(len(plan[1]))
            faults = dict(dice.sample(faults_of(plan, loop), dice.randint(0, 2)))
            heard = heard_with(plan, loop, tuple(sorted(faults.items())))
            told = told_place(plan, loop, *heard)
            single = [some[0] for some in sets_of(plan, loop, 1)
                      if some and heard_by_search(plan, loop, some) == heard]
            if heard == heard_with(plan, loop, ()):
                self.assertEqual(told, ("whole",))
            else:
                self.assertEqual(told, ("some", single) if single else ("more",))


class AnyThing(unittest.TestCase):
    def refused(self, ask, *things):
        with self.assertRaises(HouseError) as caught:
            ask(*things)
        self.assertIs(type(caught.exception), NoPlan)

    def test_any_thing_as_the_plan(self):
        for thing in NO_PLANS:
            kept = copy.deepcopy(thing)
            self.refused(heard_with, thing, 0, ())
            self.refused(heard_with, thing, 0, (((0, 0, 0), "cut"),))
            for most in (0, 1, 2):
                self.refused(agreeing, thing, 0, (), (), most)
            self.refused(told_place, thing, 0, ((0, 1, 0),), ())
            self.assertEqual(thing, kept)

    def test_what_is_told_is_the_askers_own(self):
        heard = heard_with(SMALL, 0, (((0, 2, 0), "cut"),))
        for ask in (lambda: agreeing(SMALL, 0, *heard, 2), lambda: told_place(SMALL, 0, *heard)[1]):
            told = ask()
            before = list(told)
            told.clear()
            self.assertEqual(ask(), before)
        self.assertEqual(heard_with(SMALL, 0, (((0, 2, 0), "cut"),)), heard)


if __name__ == "__main__":
    unittest.main()
