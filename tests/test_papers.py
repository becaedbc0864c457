"""Points 3, 39: of each device a claim, heard or still, with a paper that the checker takes."""

import copy
import itertools
import random
import unittest

from graph import Graph, rest_of
from samples import GREATEST, NO_PLANS, OPENER, ORDINARY, SMALLEST, plan_of, random_plan, seeker
from warnloop.checker import holds
from warnloop.errors import HouseError, NoPlan
from warnloop.papers import paper_of
from warnloop.plans import devices, stretches

SMALL = plan_of([seeker(1, ("bell", 2)), OPENER, seeker(3)])


class Papers(unittest.TestCase):
    def check(self, plan, faults):
        """The claim of each device is the one that is due, and the checker takes it; told are their words and ends."""
        rest = rest_of(plan, faults)
        graph = Graph(plan, dict(faults), rest)
        told = {}
        for spot, _, _ in devices(plan):
            both = paper_of(plan, faults, spot)
            self.assertIs(type(both), tuple)
            claim, paper = both
            self.assertIs(holds(claim, paper), True, both)
            ends = [end for end in "AB" if spot in graph.heard(spot[0], end)]
            if ends:
                self.assertEqual(claim, ("heard", plan, faults, rest, ends[0], spot))
            else:
                self.assertEqual(claim, ("still", plan, faults, rest, spot))
            told[spot] = ends[0] if ends else "still"
        return told

    def test_no_fault(self):
        for plan in (SMALLEST, SMALL, ORDINARY, GREATEST):
            self.assertEqual(set(self.check(plan, ()).values()), {"A"})

    def test_each_single_fault(self):
        for plan in (SMALL, ORDINARY, plan_of([seeker(1), seeker(2, ("bell", 3))])):
            for fault in itertools.product(stretches(plan), ("cut", "short")):
                self.check(plan, (fault,))

    def test_a_cut(self):
        told = self.check(ORDINARY, (((0, 2, 0), "cut"), ((0, 4, 2), "cut")))
        self.assertEqual(told, {
            (0, 1, 0): "A", (0, 2, 0): "A", (0, 2, 1): "A", (0, 4, 0): "B", (0, 4, 1): "B", (0, 4, 2): "still",
            (0, 4, 3): "still", (0, 6, 0): "B", (1, 2, 0): "A", (1, 5, 0): "A",
        })

    def test_a_short(self):
        told = self.check(ORDINARY, (((0, 4, 3), "short"),))
        self.assertEqual([spot for spot, how in told.items() if how == "still"],
                         [(0, 4, 0), (0, 4, 1), (0, 4, 2), (0, 4, 3)])
        self.assertEqual(told[(0, 6, 0)], "B")

    def test_both(self):
        told = self.check(ORDINARY, (((0, 0, 0), "short"), ((0, 2, 1), "cut"), ((0, 5, 0), "cut"), ((1, 2, 0), "cut")))
        self.assertEqual(told, {
            (0, 1, 0): "still", (0, 2, 0): "still", (0, 2, 1): "still", (0, 4, 0): "still", (0, 4, 1): "still",
            (0, 4, 2): "still", (0, 4, 3): "still", (0, 6, 0): "B", (1, 2, 0): "A", (1, 5, 0): "B",
        })

    def test_every_case_of_a_small_plan(self):
        row = stretches(SMALL)
        for hows in itertools.product(("whole", "cut", "short"), repeat=len(row)):
            self.check(SMALL, tuple(pair for pair in zip(row, hows) if pair[1] != "whole"))

    def test_greater_plans(self):
        for seed in range(150):
            dice, plan = random.Random(seed), random_plan(seed)
            share = dice.choice((0.05, 0.2, 0.7))
            faults = tuple((stretch, dice.choice(("cut", "short"))) for stretch in stretches(plan)
                           if dice.random() < share)
            self.check(plan, faults)

    def test_any_thing_as_the_plan(self):
        for thing in NO_PLANS:
            kept = copy.deepcopy(thing)
            for faults in ((), (((0, 0, 0), "cut"),)):
                with self.assertRaises(HouseError) as caught:
                    paper_of(thing, faults, (0, 1, 0))
                self.assertIs(type(caught.exception), NoPlan)
            self.assertEqual(thing, kept)

    def test_the_same_for_the_same(self):
        faults = (((0, 4, 3), "short"),)
        for spot, _, _ in devices(ORDINARY):
            self.assertEqual(paper_of(ORDINARY, faults, spot), paper_of(ORDINARY, faults, spot))


if __name__ == "__main__":
    unittest.main()
