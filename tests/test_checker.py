"""Points 3, 38: claims with papers, taken and not taken."""

import copy
import itertools
import random
import unittest

from graph import Graph, rest_of
from rule_samples import RULES, random_history, random_rules, said
from samples import GREATEST, NO_NUMBERS, NO_PLANS, ODD_THINGS, OPENER, ORDINARY, SMALLEST, nested, plan_of
from samples import random_plan, seeker
from warnloop.checker import holds
from warnloop.making import fewest_openers
from warnloop.panels import joined
from warnloop.plans import devices, openers, stretches
from warnloop.tables import Runner, table_of

# End A, a seeker with a bell on its spur, an opener, a seeker, end B: small enough for every case.
SMALL = plan_of([seeker(1, ("bell", 2)), OPENER, seeker(3)])
# Two loops; on the first one three spur's devices in the midst and two openers.
LONG = plan_of(
    [seeker(1), OPENER, seeker(2, ("bell", 3), ("bell", 4), ("door", 5)), OPENER, seeker(6), seeker(7)],
    [seeker(8), OPENER, seeker(9)],
)
HOWS = ("whole", "cut", "short")

LOG = [(0, 0, 0, "a"), (0, 1, 0, "b"), (1, 0, 1, "c")]
ONE = [(0, 0, 0, "a"), (1, 0, 1, "c")]
OTHER = [(0, 0, 0, "a"), (0, 1, 0, "b")]
TABLE = (
    (
        ("many", 2, (5, 6, 20)), ("key", 3), ("hours", 22, 6), ("not", 0), ("and", 1, 2), ("or", 3, 4),
        ("then", 5, 1, 20),
    ),
    ((1, 1), (4, 6), (8, 5)),
)
HISTORY = [((5, 6), (3,), 1), ((), (1, 3), 0), ((1,), (0, 1, 3), 23)]
# What is no part of any claim or paper, wherever it stands.
FAIR_NOWHERE = [
    True, False, 10 ** 5000, -(10 ** 40), "\t", "%", (None,) * 3, ((),), [None], [[]], nested(11), [nested(8)], (True,),
]


def rests_by_search(plan, faults, gaps):
    graph = Graph(plan, dict(faults), gaps)
    return all(graph.parts_by_act(opener) == (opener in gaps) for opener in openers(plan))


def faults_by(hows):
    return tuple((stretch, how) for stretch, how in sorted(hows.items()) if how != "whole")


def every_hows(plan):
    row = stretches(plan)
    for hows in itertools.product(HOWS, repeat=len(row)):
        yield faults_by(dict(zip(row, hows)))


def random_faults(dice, plan):
    share = dice.choice((0.05, 0.2, 0.6))
    return faults_by({stretch: dice.choice(HOWS) if dice.random() < share else "whole" for stretch in stretches(plan)})


def resting_cases(many):
    """So many plans with faults and the openers parted at rest, and the graph of them."""
    for seed in range(many):
        plan = random_plan(seed)
        faults = random_faults(random.Random(seed), plan)
        rest = rest_of(plan, faults)
        yield plan, faults, rest, Graph(plan, dict(faults), rest)


def subsets(row):
    return [some for many in range(len(row) + 1) for some in itertools.combinations(row, many)]


def way(plan, end, spot):
    last = len(plan[1][spot[0]]) + 1
    places = range(0, spot[1] + 1) if end == "A" else range(last, spot[1] - 1, -1)
    return tuple((spot[0], place, 0) for place in places)


def edges_of(plan, loop):
    """Each stretch of the loop with what is on both of its sides."""
    told = [((loop, at, 0), (loop, at, 0), (loop, at + 1, 0)) for at in range(len(plan[1][loop]) + 1)]
    for at, place in enumerate(plan[1][loop], start=1):
        for piece in range(1, len(place[2]) + 1):
            told.append(((loop, at, piece), (loop, at, piece - 1), (loop, at, piece)))
    return told


def is_fence(plan, faults, gaps, spot, fence):
    """Point 38's words of a fence, edge by edge."""
    inner = [(loop, at, 0) for loop, at in openers(plan) if 0 < at <= len(plan[1][loop])]
    fair = [other for other, _, _ in devices(plan)] + [other for other in inner if other[:2] not in gaps]
    if spot not in fence or any(part not in fair or part[0] != spot[0] for part in fence):
        return False
    for stretch, one, other in edges_of(plan, spot[0]):
        for here, there in ((one, other), (other, one)):
            if here in fence and there not in fence:
                if dict(faults).get(stretch) != "cut" and not (there[2] == 0 and there[:2] in gaps):
                    return False
    return True


def whole_piece(plan, faults, gaps, spot):
    """All that hangs together with the spot, by going on as long as something is new."""
    found, many = {spot}, 0
    inner = [(loop, at, 0) for loop, at in openers(plan) if 0 < at <= len(plan[1][loop])]
    fair = {other for other, _, _ in devices(plan)} | {other for other in inner if other[:2] not in gaps}
    while len(found) > many:
        many = len(found)
        for stretch, one, other in edges_of(plan, spot[0]):
            if dict(faults).get(stretch) != "cut" and {one, other} <= fair and {one, other} & found:
                found |= {one, other}
    return tuple(sorted(found))


def parts_of(thing, ahead=()):
    """Each path to a part of nested tuples and lists, its own, empty one first."""
    told = [ahead]
    if isinstance(thing, (tuple, list)):
        for at, part in enumerate(thing):
            told.extend(parts_of(part, ahead + (at,)))
    return told


def part_by(thing, path):
    for at in path:
        thing = thing[at]
    return thing


def put_by(thing, path, part):
    """Nested tuples and lists with the part at this path put otherwise."""
    if not path:
        return part
    rows = list(thing)
    rows[path[0]] = put_by(rows[path[0]], path[1:], part)
    return type(thing)(rows)


def taken_claims():
    """A claim of each kind that is taken, with its paper."""
    cuts = (((0, 3, 2), "cut"), ((0, 5, 0), "cut"))
    shorts = (((0, 3, 1), "short"), ((1, 0, 0), "cut"))
    parted = ((0, 2), (0, 4))
    return [
        (("rest", LONG, (), ()), None),
        (("rest", LONG, shorts, parted), None),
        (("heard", LONG, cuts, (), "A", (0, 3, 1)), way(LONG, "A", (0, 3, 1))),
        (("heard", LONG, shorts, parted, "B", (0, 5, 0)), way(LONG, "B", (0, 5, 0))),
        (("still", LONG, cuts, (), (0, 3, 3)), ((0, 3, 2), (0, 3, 3))),
        (("still", LONG, shorts, parted, (0, 3, 0)), ((0, 3, 0), (0, 3, 1), (0, 3, 2), (0, 3, 3))),
        (("fewest", (1, 1, 0, 1), 1, (1, 2)), ((0, 1), (1, 3))),
        (("fewest", (1, 0), 1, ()), ()),
        (("joined", ONE, OTHER, LOG), None),
        (("says", TABLE, HISTORY, (1, 4, 8)), None),
    ]


class Taken(unittest.TestCase):
    def takes(self, claim, paper):
        self.assertIs(holds(claim, paper), True, (claim, paper))

    def leaves(self, claim, paper):
        self.assertIs(holds(claim, paper), False, (claim, paper))


class AnyThings(Taken):
    def test_those_that_are_taken(self):
        for claim, paper in taken_claims():
            self.takes(claim, paper)

    def test_any_things(self):
        papers = [paper for _, paper in taken_claims()]
        for thing in NO_PLANS + papers:
            for paper in ODD_THINGS[:20] + papers:
                self.leaves(thing, paper)
                self.leaves((thing,), paper)
                self.leaves(("rest", thing), paper)
        for claim, paper in taken_claims():
            for thing in ODD_THINGS + [nested(12, paper), [paper], (paper,)]:
                if thing != paper:
                    self.leaves(claim, thing)
                    self.leaves(thing, paper)
                self.leaves(thing, claim)

    def test_words_put_otherwise(self):
        words = ["rest", "heard", "still", "fewest", "joined", "says"]
        for claim, paper in taken_claims():
            for word in words + ["", "Rest", "rest ", "other", None, True, 0, ("rest",), ["rest"]]:
                if word != claim[0]:
                    self.leaves((word,) + claim[1:], paper)

    def test_parts_left_out_and_put_in(self):
        for claim, paper in taken_claims():
            for at in range(len(claim)):
                self.leaves(claim[:at] + claim[at + 1:], paper)
                self.leaves(claim[:at] + (claim[at],) + claim[at:], paper)
            self.leaves(claim + (None,), paper)
            self.leaves((claim,), paper)

    def test_lists_for_tuples_and_tuples_for_lists(self):
        for both in taken_claims():
            for path in parts_of(both)[1:]:
                part = part_by(both, path)
                if isinstance(part, (tuple, list)):
                    other = list(part) if isinstance(part, tuple) else tuple(part)
                    self.leaves(*put_by(both, path, other))

    def test_truths_for_numbers(self):
        found = 0
        for both in taken_claims():
            for path in parts_of(both)[1:]:
                part = part_by(both, path)
                if type(part) is int and part in (0, 1):
                    found += 1
                    self.leaves(*put_by(both, path, bool(part)))
        self.assertGreater(found, 100)

    def test_other_things_at_every_place(self):
        for both in taken_claims():
            for path in parts_of(both)[1:]:
                for thing in FAIR_NOWHERE:
                    self.leaves(*put_by(both, path, thing))
                for thing in NO_NUMBERS:
                    self.assertIn(holds(*put_by(both, path, thing)), (True, False))

    def test_nothing_is_changed(self):
        for claim, paper in taken_claims():
            kept = copy.deepcopy((claim, paper))
            for _ in range(2):
                self.takes(claim, paper)
            self.assertEqual((claim, paper), kept)

    def test_deep_things(self):
        for claim, paper in taken_claims():
            for path in parts_of(claim)[1:]:
                deep = nested(12 - len(path), 1)
                self.leaves(put_by(claim, path, deep), paper)
                self.leaves(put_by(claim, path, [deep]), paper)


class Rest(Taken):
    def test_every_case_of_a_small_plan(self):
        for faults in every_hows(SMALL):
            rest = rest_of(SMALL, faults)
            for gaps in subsets(openers(SMALL)):
                self.assertIs(holds(("rest", SMALL, faults, gaps), None), gaps == rest)
                self.assertEqual(rests_by_search(SMALL, faults, gaps), gaps == rest)

    def test_greater_plans(self):
        for plan, faults, rest, _ in resting_cases(120):
            self.takes(("rest", plan, faults, rest), None)
            for opener in openers(plan):
                other = tuple(sorted(set(rest) ^ {opener}))
                self.assertIs(holds(("rest", plan, faults, other), None), rests_by_search(plan, faults, other))

    def test_plans(self):
        for plan in (SMALLEST, SMALL, LONG, ORDINARY, GREATEST):
            self.takes(("rest", plan, (), ()), None)
        for thing in NO_PLANS + [list(SMALL), (SMALL,), SMALL[:2]]:
            self.leaves(("rest", thing, (), ()), None)

    def test_faults_put_otherwise(self):
        first, second = ((0, 0, 0), "cut"), ((0, 3, 0), "cut")
        self.takes(("rest", SMALL, (first, second), ()), None)
        for faults in (
            (second, first), (first, first), (first, second, second), (first, ((0, 0, 0), "short")),
            (((0, 4, 0), "cut"),), (((1, 0, 0), "cut"),), (((0, 1, 2), "cut"),), (((0, 3, 1), "cut"),),
            (((0, 0), "cut"),), (((0, 0, 0, 0), "cut"),), (((0, 0, 0), "whole"),), (((0, 0, 0), "Cut"),),
            (((0, 0, 0),),), (((0, 0, 0), "cut", "cut"),), first, (first[0],), ("cut",), (((-1, 0, 0), "cut"),),
            (((0, -1, 0), "cut"),), {(0, 0, 0): "cut"},
        ):
            self.leaves(("rest", SMALL, faults, ()), None)

    def test_openers_put_otherwise(self):
        faults = (((0, 1, 0), "short"),)
        self.takes(("rest", SMALL, faults, ((0, 0), (0, 2))), None)
        for parted in (
            ((0, 2), (0, 0)), ((0, 0), (0, 0), (0, 2)), ((0, 0), (0, 2), (0, 2)), ((0, 0, 0), (0, 2, 0)),
            ((0, 0), (0, 1), (0, 2)), ((0, 0), (0, 2), (0, 5)), ((0, 0), (0, 2), (1, 0)), (0, 0), (),
            ((0, 0), (0, 2), (0, 4)), ((0, 0),), ((0, 2),), ((0, 1), (0, 2)), ((0, 0), (0, 1)),
        ):
            self.leaves(("rest", SMALL, faults, parted), None)

    def test_a_paper_where_none_is_due(self):
        for thing in ODD_THINGS + [((0, 0, 0),)]:
            if thing is not None:
                self.leaves(("rest", SMALL, (), ()), thing)


class Heard(Taken):
    def test_every_case_of_a_small_plan(self):
        for faults in every_hows(SMALL):
            rest = rest_of(SMALL, faults)
            graph = Graph(SMALL, dict(faults), rest)
            for spot, _, _ in devices(SMALL):
                for end in "AB":
                    claim = ("heard", SMALL, faults, rest, end, spot)
                    self.assertIs(holds(claim, way(SMALL, end, spot)), spot in graph.heard(0, end))

    def test_greater_plans(self):
        for plan, faults, rest, graph in resting_cases(120):
            for spot, _, _ in devices(plan):
                for end in "AB":
                    claim = ("heard", plan, faults, rest, end, spot)
                    self.assertIs(holds(claim, way(plan, end, spot)), spot in graph.heard(spot[0], end))

    def test_other_ways(self):
        spot = (0, 3, 2)
        for end in "AB":
            claim = ("heard", LONG, (), (), end, spot)
            true = way(LONG, end, spot)
            self.takes(claim, true)
            for at in range(len(true)):
                self.leaves(claim, true[:at] + true[at + 1:])
                self.leaves(claim, true[:at] + (true[at],) + true[at:])
                self.leaves(claim, true[:at] + ((1,) + true[at][1:],) + true[at + 1:])
                self.leaves(claim, true[:at] + (true[at][:2] + (1,),) + true[at + 1:])
                self.leaves(claim, true[:at] + (true[at][:2],) + true[at + 1:])
            self.leaves(claim, true[::-1])
            self.leaves(claim, true + true[-2:-1] + true[-1:])
            self.leaves(claim, true + (spot,))
            self.leaves(claim, true + ((0, 3, 1), spot))
            self.leaves(claim, way(LONG, "B" if end == "A" else "A", spot))
            self.leaves(claim, way(LONG, end, (0, 5, 0)))
            self.leaves(claim, ())
            self.leaves(claim, None)

    def test_the_long_way_round(self):
        claim = ("heard", LONG, (), (), "A", (0, 1, 0))
        self.leaves(claim, way(LONG, "A", (0, 6, 0)) + way(LONG, "B", (0, 1, 0))[1:])
        self.leaves(claim, ((0, 0, 0), (0, 1, 0), (0, 2, 0), (0, 1, 0)))

    def test_ends(self):
        spot = (0, 1, 0)
        for end in ("a", "", "AB", None, 0, ("A",), ["A"], "C", True):
            self.leaves(("heard", LONG, (), (), end, spot), way(LONG, "A", spot))

    def test_spots(self):
        for spot, at in (
            ((0, 2, 0), 2), ((0, 0, 0), 0), ((0, 7, 0), 7), ((0, 1, 1), 1), ((0, 3, 4), 3), ((2, 1, 0), 1),
            ((0, 1), 1), ((0, 1, 0, 0), 1), ((0, 3, -1), 3), ((-1, 1, 0), 1),
        ):
            self.leaves(("heard", LONG, (), (), "A", spot), tuple((0, place, 0) for place in range(at + 1)))

    def test_past_a_cut_stretch(self):
        spot = (0, 3, 0)
        for at in range(3):
            self.leaves(("heard", LONG, (((0, at, 0), "cut"),), (), "A", spot), way(LONG, "A", spot))
            self.takes(("heard", LONG, (((0, at, 0), "cut"),), (), "B", spot), way(LONG, "B", spot))
        for at in range(3, 7):
            self.takes(("heard", LONG, (((0, at, 0), "cut"),), (), "A", spot), way(LONG, "A", spot))
            self.leaves(("heard", LONG, (((0, at, 0), "cut"),), (), "B", spot), way(LONG, "B", spot))

    def test_past_a_parted_opener(self):
        faults = (((0, 3, 1), "short"),)
        rest = ((0, 2), (0, 4))
        self.takes(("heard", LONG, faults, rest, "A", (0, 1, 0)), way(LONG, "A", (0, 1, 0)))
        self.takes(("heard", LONG, faults, rest, "B", (0, 5, 0)), way(LONG, "B", (0, 5, 0)))
        self.leaves(("heard", LONG, faults, rest, "A", (0, 3, 0)), way(LONG, "A", (0, 3, 0)))
        self.leaves(("heard", LONG, faults, rest, "A", (0, 5, 0)), way(LONG, "A", (0, 5, 0)))
        self.leaves(("heard", LONG, faults, rest, "B", (0, 3, 3)), way(LONG, "B", (0, 3, 3)))

    def test_past_the_ends_own_opener(self):
        faults = (((0, 0, 0), "short"),)
        rest = ((0, 0), (0, 2))
        self.leaves(("heard", LONG, faults, rest, "A", (0, 1, 0)), way(LONG, "A", (0, 1, 0)))
        self.takes(("heard", LONG, faults, rest, "B", (0, 3, 0)), way(LONG, "B", (0, 3, 0)))
        faults = (((0, 6, 0), "short"),)
        rest = ((0, 4), (0, 7))
        self.leaves(("heard", LONG, faults, rest, "B", (0, 6, 0)), way(LONG, "B", (0, 6, 0)))
        self.takes(("heard", LONG, faults, rest, "A", (0, 1, 0)), way(LONG, "A", (0, 1, 0)))

    def test_behind_a_cut_on_a_spur(self):
        for piece, number in itertools.product((1, 2, 3), (0, 1, 2, 3)):
            claim = ("heard", LONG, (((0, 3, piece), "cut"),), (), "A", (0, 3, number))
            self.assertIs(holds(claim, way(LONG, "A", (0, 3, number))), number < piece)

    def test_a_house_that_does_not_rest(self):
        spot = (0, 1, 0)
        self.leaves(("heard", LONG, (((0, 6, 0), "short"),), (), "A", spot), way(LONG, "A", spot))
        self.leaves(("heard", LONG, (((0, 6, 0), "short"),), ((0, 4),), "A", spot), way(LONG, "A", spot))
        self.leaves(("heard", LONG, (), ((0, 4),), "A", spot), way(LONG, "A", spot))
        self.leaves(("heard", LONG, (), ((1, 2),), "A", spot), way(LONG, "A", spot))
        self.leaves(("heard", LONG, (((1, 0, 0), "short"),), (), "A", spot), way(LONG, "A", spot))


class Still(Taken):
    def test_every_fence_of_a_small_plan(self):
        spots = sorted([spot for spot, _, _ in devices(SMALL)] + [(0, 2, 0)])
        fences = subsets(spots)
        taken = 0
        for faults in every_hows(SMALL):
            rest = rest_of(SMALL, faults)
            graph = Graph(SMALL, dict(faults), rest)
            heard = graph.heard(0, "A") + graph.heard(0, "B")
            for spot, _, _ in devices(SMALL):
                found = [fence for fence in fences if holds(("still", SMALL, faults, rest, spot), fence)]
                self.assertEqual(found, [fence for fence in fences if is_fence(SMALL, faults, rest, spot, fence)])
                self.assertEqual(bool(found), spot not in heard)
                taken += len(found)
        self.assertGreater(taken, 100)

    def test_greater_plans(self):
        for plan, faults, rest, graph in resting_cases(120):
            for spot, _, _ in devices(plan):
                heard = spot in graph.heard(spot[0], "A") + graph.heard(spot[0], "B")
                claim = ("still", plan, faults, rest, spot)
                fence = whole_piece(plan, faults, rest, spot)
                self.assertIs(holds(claim, fence), not heard)
                for part in fence:
                    fewer = tuple(other for other in fence if other != part)
                    self.assertIs(holds(claim, fewer), is_fence(plan, faults, rest, spot, fewer))

    def test_a_greater_fence_than_is_needed(self):
        faults = (((0, 0, 0), "cut"), ((0, 1, 0), "cut"), ((0, 4, 0), "cut"))
        self.takes(("still", LONG, faults, (), (0, 3, 1)),
                   ((0, 2, 0), (0, 3, 0), (0, 3, 1), (0, 3, 2), (0, 3, 3), (0, 4, 0)))
        self.takes(("still", LONG, faults, (), (0, 3, 1)),
                   ((0, 1, 0), (0, 2, 0), (0, 3, 0), (0, 3, 1), (0, 3, 2), (0, 3, 3), (0, 4, 0)))
        self.leaves(("still", LONG, faults, (), (0, 3, 1)),
                    ((0, 2, 0), (0, 3, 0), (0, 3, 1), (0, 3, 2), (0, 3, 3)))

    def test_fences_put_otherwise(self):
        faults = (((0, 0, 0), "cut"), ((0, 4, 0), "cut"))
        spot = (0, 1, 0)
        claim = ("still", LONG, faults, (), spot)
        fence = ((0, 1, 0), (0, 2, 0), (0, 3, 0), (0, 3, 1), (0, 3, 2), (0, 3, 3), (0, 4, 0))
        self.takes(claim, fence)
        for at in range(len(fence)):
            self.leaves(claim, fence[:at] + fence[at + 1:])
            self.leaves(claim, fence[:at] + (fence[at],) + fence[at:])
            self.leaves(claim, fence[:at] + (fence[at][:2],) + fence[at + 1:])
        self.leaves(claim, fence[::-1])
        self.leaves(claim, (fence[1], fence[0]) + fence[2:])
        self.leaves(claim, ((0, 0, 0),) + fence)
        self.leaves(claim, fence + ((1, 1, 0),))
        self.leaves(claim, fence + ((0, 5, 0),))
        self.leaves(claim, ((0, 0, 0),) + fence + ((0, 5, 0), (0, 6, 0), (0, 7, 0)))
        self.leaves(claim, fence[:1] + ((0, 1, 1),) + fence[1:])
        self.leaves(claim, ())
        self.leaves(claim, None)

    def test_without_the_spot(self):
        faults = (((0, 3, 1), "cut"), ((0, 3, 3), "cut"))
        self.takes(("still", LONG, faults, (), (0, 3, 3)), ((0, 3, 3),))
        self.takes(("still", LONG, faults, (), (0, 3, 2)), ((0, 3, 1), (0, 3, 2)))
        self.takes(("still", LONG, faults, (), (0, 3, 2)), ((0, 3, 1), (0, 3, 2), (0, 3, 3)))
        self.leaves(("still", LONG, faults, (), (0, 3, 2)), ((0, 3, 3),))
        self.leaves(("still", LONG, faults, (), (0, 3, 3)), ((0, 3, 1), (0, 3, 2)))
        self.leaves(("still", LONG, faults, (), (0, 3, 0)), ((0, 3, 1), (0, 3, 2), (0, 3, 3)))

    def test_a_parted_opener_in_the_fence(self):
        faults = (((0, 3, 1), "short"),)
        rest = ((0, 2), (0, 4))
        fence = ((0, 3, 0), (0, 3, 1), (0, 3, 2), (0, 3, 3))
        claim = ("still", LONG, faults, rest, (0, 3, 0))
        self.takes(claim, fence)
        self.leaves(claim, ((0, 2, 0),) + fence)
        self.leaves(claim, fence + ((0, 4, 0),))
        cut = (((0, 1, 0), "cut"), ((0, 3, 1), "short"), ((0, 4, 0), "cut"))
        self.takes(("still", LONG, cut, rest, (0, 3, 0)), fence)
        self.leaves(("still", LONG, cut, rest, (0, 3, 0)), ((0, 2, 0),) + fence + ((0, 4, 0),))

    def test_an_ends_own_opener_round_the_fence(self):
        faults = (((0, 0, 0), "short"),)
        rest = ((0, 0), (0, 2))
        claim = ("still", LONG, faults, rest, (0, 1, 0))
        self.takes(claim, ((0, 1, 0),))
        self.leaves(claim, ((0, 0, 0), (0, 1, 0)))
        short = plan_of([seeker(1), seeker(2)])
        claim = ("still", short, (((0, 1, 0), "short"),), ((0, 0), (0, 3)), (0, 2, 0))
        self.takes(claim, ((0, 1, 0), (0, 2, 0)))
        self.leaves(claim, ((0, 2, 0),))
        self.leaves(claim, ((0, 2, 0), (0, 3, 0)))
        self.leaves(claim, ((0, 1, 0), (0, 2, 0), (0, 3, 0)))

    def test_what_is_heard_has_no_fence(self):
        for spot, _, _ in devices(LONG):
            claim = ("still", LONG, (), (), spot)
            self.leaves(claim, whole_piece(LONG, (), (), spot))
            self.leaves(claim, (spot,))

    def test_spots_and_houses_that_do_not_rest(self):
        faults = (((0, 3, 1), "cut"),)
        self.takes(("still", LONG, faults, (), (0, 3, 1)), ((0, 3, 1), (0, 3, 2), (0, 3, 3)))
        self.leaves(("still", LONG, faults, ((1, 2),), (0, 3, 1)), ((0, 3, 1), (0, 3, 2), (0, 3, 3)))
        self.leaves(("still", LONG, faults, ((0, 2), (0, 4)), (0, 3, 0)), ((0, 3, 0),))
        cuts = (((0, 1, 0), "cut"), ((0, 2, 0), "cut"))
        for spot in ((0, 2, 0), (0, 0, 0), (0, 7, 0), (0, 8, 0), (2, 0, 0), (0, 2), (0, 1, 1)):
            self.leaves(("still", LONG, cuts, (), spot), (spot,))


class Fewest(Taken):
    def test_as_told(self):
        for seed in range(150):
            dice = random.Random(seed)
            weights = tuple(dice.randint(0, 9) for _ in range(dice.randint(1, 30)))
            most = dice.choice((9, 10, 20, 99))
            self.takes(("fewest", weights, most, fewest_openers(weights, most)[0]), fewest_openers(weights, most)[1])

    def test_every_paper_of_small_ones(self):
        for weights in itertools.product((0, 1, 2), repeat=4):
            for most in (1, 2, 3):
                self.check_all(weights, most)

    def check_all(self, weights, most):
        """Each choice of openers, with each choice of two spans or fewer."""
        pairs = list(itertools.product(range(4), repeat=2))
        papers = [()] + [(one,) for one in pairs] + list(itertools.product(pairs, repeat=2))
        for placed in subsets((1, 2, 3)):
            edges = (0,) + placed + (4,)
            keeps = all(sum(weights[begin:end]) <= most for begin, end in zip(edges, edges[1:]))
            for paper in papers:
                fair = keeps and len(paper) == len(placed)
                fair = fair and all(one < other and sum(weights[one:other + 1]) > most for one, other in paper)
                fair = fair and (len(paper) < 2 or paper[0][1] <= paper[1][0])
                self.assertIs(holds(("fewest", weights, most, placed), paper), fair)

    def test_put_otherwise(self):
        claim, paper = ("fewest", (3, 3, 3, 3, 3), 6, (2, 4)), ((0, 2), (2, 4))
        self.takes(claim, paper)
        self.takes(("fewest", (3, 3, 3, 3, 3), 6, (1, 3)), paper)
        for placed in (
            (2,), (4,), (), (2, 3, 4), (4, 2), (2, 2), (0, 2, 4), (2, 5), (2, 6), (-1, 2), (2, 4, 5), (1, 2),
        ):
            self.leaves(("fewest", (3, 3, 3, 3, 3), 6, placed), paper)
            for spans in (((0, 2),), (), ((0, 2), (2, 4), (4, 4)), ((0, 2), (2, 4), (4, 6))):
                self.leaves(("fewest", (3, 3, 3, 3, 3), 6, placed), spans)
        for spans in (
            ((0, 2),), ((0, 2), (2, 4), (2, 4)), ((2, 4), (0, 2)), ((0, 2), (1, 4)), ((0, 1), (2, 4)),
            ((0, 2), (2, 5)), ((-1, 2), (2, 4)), ((2, 0), (2, 4)), ((0, 2), (4, 2)), ((0, 3), (2, 4)), (), (0, 2),
            ((0, 2, 3), (2, 4)), ((0,), (2, 4)), ((0, 2), (3, 4)),
        ):
            self.leaves(claim, spans)

    def test_a_span_that_weighs_just_most(self):
        self.takes(("fewest", (3, 3, 1), 6, (1,)), ((0, 2),))
        self.leaves(("fewest", (3, 3, 1), 6, (1,)), ((0, 1),))
        self.leaves(("fewest", (3, 3, 0), 6, (1,)), ((0, 2),))

    def test_one_thing_that_is_too_heavy(self):
        self.leaves(("fewest", (2,), 1, ()), ())
        self.leaves(("fewest", (0, 2), 1, (1,)), ((0, 1),))
        self.leaves(("fewest", (2, 2), 1, (1,)), ((0, 1),))

    def test_a_span_of_one_thing(self):
        self.leaves(("fewest", (1, 2, 1), 2, (1,)), ((1, 1),))

    def test_bounds(self):
        self.takes(("fewest", (0,), 1, ()), ())
        self.takes(("fewest", (9,) * 30, 99, (11, 22)), ((0, 11), (11, 22)))
        self.takes(("fewest", (0,) * 30, 1, ()), ())
        for weights in ((), (0,) * 31, (10,), (-1,), [0], (0, None), (0, "0"), None, 0, "0"):
            self.leaves(("fewest", weights, 10, ()), ())
        for most in (0, 100, -1, None, "9", (9,), 10 ** 5000):
            self.leaves(("fewest", (0, 0), most, ()), ())


class Joined(Taken):
    def test_as_joined(self):
        for seed in range(100):
            dice = random.Random(seed)
            known = {}
            for _ in range(15):
                panel, number = dice.randrange(4), dice.randrange(5)
                known[(panel, number)] = (dice.randrange(9), panel, number, dice.choice("abc"))
            one, other = [sorted(entry for entry in known.values() if dice.random() < 0.6) for _ in range(2)]
            log = joined(one, other)
            self.takes(("joined", one, other, log), None)
            self.takes(("joined", other, one, log), None)
            for at in range(len(log)):
                self.leaves(("joined", one, other, log[:at] + log[at + 1:]), None)
            self.leaves(("joined", one, other, log + [(999, 3, 999, "z")]), None)

    def test_logs_of_none(self):
        self.takes(("joined", [], [], []), None)
        self.takes(("joined", LOG, [], LOG), None)
        self.takes(("joined", [], LOG, LOG), None)
        self.leaves(("joined", LOG, [], []), None)
        self.leaves(("joined", [], [], LOG), None)

    def test_logs_put_otherwise(self):
        for at in range(3):
            for log in ([LOG[1], LOG[0], LOG[2]], LOG[:1] + LOG, LOG + LOG[2:], LOG[::-1], tuple(LOG), LOG + [None]):
                logs = [LOG, LOG, LOG]
                self.takes(("joined", *logs), None)
                logs[at] = log
                self.leaves(("joined", *logs), None)

    def test_unlike_entries_of_one_number(self):
        unlike = [(0, 0, 0, "a"), (0, 0, 0, "b")]
        self.leaves(("joined", unlike, [], unlike), None)
        self.leaves(("joined", [], unlike, unlike), None)
        self.leaves(("joined", unlike[:1], unlike[1:], unlike), None)
        self.leaves(("joined", unlike[:1], unlike[1:], unlike[:1]), None)

    def test_entries(self):
        for entry in ((0, 0, 0, "x"), (999, 3, 999, "x" * 20), (5, 2, 7, " "), (0, 3, 999, "~")):
            self.takes(("joined", [entry], [], [entry]), None)
        for entry in (
            (-1, 0, 0, "x"), (1000, 0, 0, "x"), (0, -1, 0, "x"), (0, 4, 0, "x"), (0, 0, -1, "x"), (0, 0, 1000, "x"),
            (0, 0, 0, ""), (0, 0, 0, "x" * 21), (0, 0, 0, "a%"), (0, 0, 0, "a\n"), (0, 0, 0, "\t"), (0, 0, 0, None),
            (0, 0, 0), (0, 0, 0, "x", 0), [0, 0, 0, "x"], ("0", 0, 0, "x"), (0, 0, 0, 0), (True, 0, 0, "x"),
            (0, False, 0, "x"), (0, 0, True, "x"), (0, 0, 0, ("x",)), None, "x", 10 ** 5000, (10 ** 5000, 0, 0, "x"),
        ):
            for claim in (("joined", [entry], [], [entry]), ("joined", [], [entry], [entry])):
                self.leaves(claim, None)
            self.leaves(("joined", [entry, entry], [], [entry]), None)

    def test_great_logs(self):
        one = [(stamp, stamp % 4, stamp, "x") for stamp in range(200)]
        other = [(stamp, stamp % 4, stamp, "x") for stamp in range(200, 400)]
        self.takes(("joined", one, other, one + other), None)
        self.leaves(("joined", one, other, other + one), None)

    def test_a_paper_where_none_is_due(self):
        for thing in ODD_THINGS + [LOG]:
            if thing is not None:
                self.leaves(("joined", ONE, OTHER, LOG), thing)


class Says(Taken):
    def told(self, table, history):
        runner = Runner(table)
        return [runner.beat(*brought) for brought in history][-1]

    def test_as_rules_say(self):
        for seed in range(60):
            dice = random.Random(seed)
            rules = random_rules(seed)
            table = table_of(ORDINARY, rules)
            history = random_history(dice, ORDINARY, dice.choice((1, 2, 10, 60)))
            true = said(ORDINARY, rules, history)
            for addresses in subsets((3, 4, 7, 8)):
                self.assertIs(holds(("says", table, history, addresses), None), addresses == true)

    def test_only_the_last_beat_counts(self):
        table = ((("key", 0),), ((5, 0),))
        self.takes(("says", table, [((), (0,), 0), ((), (), 0)], ()), None)
        self.takes(("says", table, [((), (), 0), ((), (0,), 0)], (5,)), None)
        self.leaves(("says", table, [((), (0,), 0), ((), (), 0)], (5,)), None)

    def test_the_run_begins_with_the_first_beat(self):
        table = ((("key", 0), ("key", 1), ("then", 0, 1, 2)), ((5, 2),))
        beats = [((), (0,), 0), ((), (), 0), ((), (1,), 0)]
        self.takes(("says", table, beats, (5,)), None)
        self.leaves(("says", table, beats[1:], (5,)), None)
        self.takes(("says", table, beats[1:], ()), None)

    def test_addresses_put_otherwise(self):
        true = self.told(TABLE, HISTORY)
        self.assertEqual(true, (1, 4, 8))
        for addresses in ((), (1,), (4, 8), (1, 4), (8, 4, 1), (1, 4, 4, 8), (1, 4, 8, 9), (0, 1, 4, 8), [1, 4, 8],
                          (1, 4, "8"), "148", None, 1, (True, 4, 8), ((1, 4, 8),)):
            self.leaves(("says", TABLE, HISTORY, addresses), None)

    def test_tables(self):
        self.takes(("says", ((), ()), HISTORY, ()), None)
        for thing in ODD_THINGS + [
            ((("key", 10),), ()), ((("key", 0),), ((5, 1),)), ((("not", 0),), ()), ((("key", 0),), ((5, 0), (4, 0))),
            ((("key", 0),) * 321, ()), ((("term", "a"),), ()), ((("key", 0),), ((0, 0),)), ((("key", 0),), ((100, 0),)),
        ]:
            self.leaves(("says", thing, HISTORY, ()), None)

    def test_great_tables_and_histories(self):
        rows = [("key", at % 10) for at in range(20)] + [("then", at, at + 1, 20) for at in range(300)]
        table = (tuple(rows), tuple((address, 300 + address) for address in range(1, 17)))
        history = [((), tuple(range(10)), beat % 24) for beat in range(60)]
        self.takes(("says", table, history, self.told(table, history)), None)

    def test_histories(self):
        table = ((), ())
        for history in ([((), (), 0)], [(tuple(range(1, 31)), tuple(range(10)), 23)] * 60, [((1, 99), (0, 9), 12)]):
            self.takes(("says", table, history, ()), None)
        for brought in (
            ((0,), (), 0), ((100,), (), 0), ((2, 1), (), 0), ((1, 1), (), 0), (tuple(range(1, 32)), (), 0),
            ((), (10,), 0), ((), (-1,), 0), ((), (1, 0), 0), ((), (3, 3), 0), ((), (), 24), ((), (), -1),
            ((), (), None), ((), ()), ((), (), 0, 0), [(), (), 0], ([], (), 0), ((), [], 0), ((), (), "0"),
            ((True,), (), 0), ((), (False,), 0), ((), (), True), None, 0, "", ((1, None), (), 0), (1, (), 0),
        ):
            self.leaves(("says", table, [brought], ()), None)
            self.leaves(("says", table, [((), (), 0), brought], ()), None)
            self.leaves(("says", table, [brought, ((), (), 0)], ()), None)
        for thing in ([], [((), (), 0)] * 61, (((), (), 0),), None, ((), (), 0), "", 0):
            self.leaves(("says", table, thing, ()), None)

    def test_a_paper_where_none_is_due(self):
        for thing in ODD_THINGS + [(1, 4, 8), HISTORY]:
            if thing is not None:
                self.leaves(("says", TABLE, HISTORY, (1, 4, 8)), thing)

    def test_rules_have_such_tables(self):
        history = [((1,), (), 12), ((5,), (0,), 3)]
        self.takes(("says", table_of(ORDINARY, RULES), history, said(ORDINARY, RULES, history)), None)


if __name__ == "__main__":
    unittest.main()
