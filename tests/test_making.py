"""Points 3, 36, 37: fewest openers with the spans that need them, and volts along a row."""

import itertools
import math
import random
import unittest
from fractions import Fraction

from warnloop.errors import NoPlan
from warnloop.making import fewest_openers, least_supply, volts


def keeps(weights, most, openers):
    """Whether no part between these openers weighs more than most."""
    edges = (0,) + tuple(openers) + (len(weights),)
    return all(sum(weights[begin:end]) <= most for begin, end in zip(edges, edges[1:]))


def fewest_by_search(weights, most):
    """How many openers are needed, by trying all choices, or None."""
    between = range(1, len(weights))
    for many in range(len(weights)):
        if any(keeps(weights, most, some) for some in itertools.combinations(between, many)):
            return many
    return None


class Openers(unittest.TestCase):
    def check(self, weights, most):
        """Openers and spans are all that point 36 says, but for being fewest by a search; told are the openers."""
        told = fewest_openers(weights, most)
        self.assertIsInstance(told, tuple)
        openers, spans = told
        self.assertIsInstance(openers, tuple)
        self.assertIsInstance(spans, tuple)
        self.assertEqual(list(openers), sorted(set(openers)))
        self.assertTrue(all(1 <= opener < len(weights) for opener in openers))
        self.assertTrue(keeps(weights, most, openers))
        self.assertEqual(len(spans), len(openers))
        for first, last in spans:
            self.assertTrue(0 <= first < last < len(weights))
            self.assertGreater(sum(weights[first:last + 1]), most)
        for (_, end), (begin, _) in zip(spans, spans[1:]):
            self.assertGreaterEqual(begin, end)
        return openers

    def refused(self, weights, most):
        with self.assertRaises(NoPlan) as caught:
            fewest_openers(weights, most)
        self.assertIs(type(caught.exception), NoPlan)

    def test_one_thing(self):
        for weight, most in ((0, 1), (1, 1), (9, 9), (9, 99), (8, 9)):
            self.assertEqual(fewest_openers((weight,), most), ((), ()))
        for weight, most in ((2, 1), (9, 8), (9, 1)):
            self.refused((weight,), most)

    def test_ordinary_ones(self):
        self.assertEqual(fewest_openers((1, 1), 1), ((1,), ((0, 1),)))
        self.assertEqual(len(self.check((3, 3, 3, 3), 6)), 1)
        self.assertEqual(self.check((5, 5, 5), 5), (1, 2))
        self.assertEqual(self.check((5, 5, 5), 15), ())
        self.assertEqual(self.check((5, 5, 5), 14) != (), True)

    def test_thirty_things(self):
        self.assertEqual(self.check((9,) * 30, 9), tuple(range(1, 30)))
        self.assertEqual(len(self.check((9,) * 30, 99)), 2)
        self.assertEqual(self.check((1,) * 30, 30), ())
        self.assertEqual(len(self.check((1,) * 30, 29)), 1)
        self.assertEqual(self.check((1,) * 30, 1), tuple(range(1, 30)))
        self.assertEqual(self.check((3,) * 30, 90), ())
        self.assertEqual(len(self.check((3,) * 30, 89)), 1)

    def test_weights_of_nought(self):
        self.assertEqual(self.check((0,) * 30, 1), ())
        self.assertEqual(len(self.check((1, 0, 0, 0, 1), 1)), 1)
        self.assertEqual(len(self.check((0, 1, 0, 1, 0, 0, 1, 0), 1)), 2)
        self.assertEqual(self.check((0, 0, 1, 0, 0), 1), ())

    def test_a_thing_that_weighs_just_most_and_one_more(self):
        for most in (1, 5, 8):
            for at in range(4):
                weights = [0, 1, 0, 1]
                weights[at] = most
                self.check(tuple(weights), most)
                weights[at] = most + 1
                self.refused(tuple(weights), most)

    def test_as_few_as_a_search_finds_for_small_ones(self):
        for many in range(1, 6):
            for weights in itertools.product((0, 1, 2, 4), repeat=many):
                for most in (1, 2, 3, 4, 6):
                    fewest = fewest_by_search(weights, most)
                    if fewest is None:
                        self.refused(weights, most)
                    else:
                        self.assertEqual(len(self.check(weights, most)), fewest)

    def test_as_few_as_a_search_finds_for_greater_ones(self):
        for seed in range(60):
            dice = random.Random(seed)
            weights = tuple(dice.randint(0, 9) for _ in range(dice.randint(6, 12)))
            most = dice.randint(max(1, max(weights)), 40)
            self.assertEqual(len(self.check(weights, most)), fewest_by_search(weights, most))

    def test_spans_prove_it_for_the_greatest(self):
        for seed in range(200):
            dice = random.Random(seed)
            weights = tuple(dice.randint(0, 9) for _ in range(30))
            self.check(weights, dice.choice((9, 10, 15, 40, 98, 99)))

    def test_the_same_for_the_same(self):
        weights = (3, 1, 4, 1, 5, 9, 2, 6)
        self.assertEqual(fewest_openers(weights, 9), fewest_openers(weights, 9))


def as_tuple(fraction):
    return (fraction.numerator, fraction.denominator)


def left_by_words(supply, resists, draws, on):
    """Point 37's words, with Python's own fractions."""
    left, told = Fraction(*supply), []
    for at, resist in enumerate(resists):
        drawn = sum([Fraction(*draw) for draw, is_on in zip(draws[at:], on[at:]) if is_on], Fraction(0))
        left -= Fraction(*resist) * drawn
        told.append(as_tuple(left))
    return told


def random_fraction(dice):
    kind = dice.random()
    if kind < 0.2:
        return (0, 1)
    most = 12 if kind < 0.8 else 999_999
    return as_tuple(Fraction(dice.randint(0, most), dice.randint(1, most)))


class Volts(unittest.TestCase):
    def check_form(self, fraction):
        self.assertIs(type(fraction), tuple)
        top, bottom = fraction
        self.assertIs(type(top), int)
        self.assertIs(type(bottom), int)
        self.assertGreaterEqual(bottom, 1)
        self.assertEqual(math.gcd(top, bottom), 1)

    def test_one_device(self):
        self.assertEqual(volts((24, 1), [(1, 2)], [(3, 1)], [True]), [(45, 2)])
        self.assertEqual(volts((24, 1), [(1, 2)], [(3, 1)], [False]), [(24, 1)])
        self.assertEqual(volts((3, 2), [(1, 2)], [(3, 1)], [True]), [(0, 1)])
        self.assertEqual(volts((1, 3), [(1, 2)], [(3, 1)], [True]), [(-7, 6)])
        self.assertEqual(volts((0, 1), [(1, 2)], [(3, 1)], [True]), [(-3, 2)])

    def test_three_devices(self):
        resists, draws = [(1, 1), (1, 2), (2, 1)], [(1, 1), (1, 2), (1, 4)]
        self.assertEqual(volts((10, 1), resists, draws, [True, True, True]), [(33, 4), (63, 8), (59, 8)])
        self.assertEqual(volts((10, 1), resists, draws, [False, False, False]), [(10, 1)] * 3)
        self.assertEqual(volts((10, 1), resists, draws, [True, False, False]), [(9, 1)] * 3)
        self.assertEqual(volts((10, 1), resists, draws, [False, False, True]), [(39, 4), (77, 8), (73, 8)])
        self.assertEqual(volts((10, 1), resists, draws, [False, True, False]), [(19, 2), (37, 4), (37, 4)])

    def test_lowest_terms(self):
        self.assertEqual(volts((1, 2), [(1, 6)], [(1, 1)], [True]), [(1, 3)])
        self.assertEqual(volts((1, 6), [(1, 2)], [(1, 1)], [True]), [(-1, 3)])
        self.assertEqual(volts((5, 2), [(1, 2)], [(1, 1)], [True]), [(2, 1)])
        self.assertEqual(volts((0, 1), [(0, 1)], [(7, 3)], [True]), [(0, 1)])

    def test_resists_and_draws_of_nought(self):
        self.assertEqual(volts((7, 3), [(0, 1)] * 4, [(5, 2)] * 4, [True] * 4), [(7, 3)] * 4)
        self.assertEqual(volts((7, 3), [(5, 2)] * 4, [(0, 1)] * 4, [True] * 4), [(7, 3)] * 4)
        self.assertEqual(least_supply([(0, 1)] * 4, [(5, 2)] * 4, (7, 3)), (7, 3))
        self.assertEqual(least_supply([(5, 2)] * 4, [(0, 1)] * 4, (0, 1)), (0, 1))

    def test_twelve_devices(self):
        many = 12
        told = volts((100, 1), [(1, 1)] * many, [(1, 1)] * many, [True] * many)
        expected, left = [], 100
        for drawn in range(many, 0, -1):
            left -= drawn
            expected.append((left, 1))
        self.assertEqual(told, expected)
        self.assertEqual(least_supply([(1, 1)] * many, [(1, 1)] * many, (5, 1)), (83, 1))

    def test_by_the_words(self):
        for seed in range(300):
            dice = random.Random(seed)
            many = dice.choice((1, 2, 3, 5, 12))
            supply = random_fraction(dice)
            resists, draws = [[random_fraction(dice) for _ in range(many)] for _ in range(2)]
            for share in (0, 0.5, 1):
                on = [dice.random() < share for _ in range(many)]
                told = volts(supply, resists, draws, on)
                self.assertIsInstance(told, list)
                self.assertEqual(told, left_by_words(supply, resists, draws, on))
                for fraction in told:
                    self.check_form(fraction)

    def test_the_least_supply_leaves_just_the_need(self):
        for seed in range(200):
            dice = random.Random(seed)
            many = dice.choice((1, 2, 4, 12))
            resists, draws = [[random_fraction(dice) for _ in range(many)] for _ in range(2)]
            need = random_fraction(dice)
            supply = least_supply(resists, draws, need)
            self.check_form(supply)
            self.assertEqual(volts(supply, resists, draws, [True] * many)[-1], need)

    def test_at_no_other_choice_is_less_left(self):
        for seed in range(30):
            dice = random.Random(seed)
            many = dice.randint(1, 5)
            resists, draws = [[random_fraction(dice) for _ in range(many)] for _ in range(2)]
            supply = least_supply(resists, draws, random_fraction(dice))
            least = volts(supply, resists, draws, [True] * many)
            for on in itertools.product((True, False), repeat=many):
                for left, low in zip(volts(supply, resists, draws, list(on)), least):
                    self.assertGreaterEqual(Fraction(*left), Fraction(*low))

    def test_what_is_handed_in_stays_and_what_is_told_is_new(self):
        resists, draws, on = [(1, 2), (1, 3)], [(1, 1), (2, 1)], [True, False]
        told = volts((9, 1), resists, draws, on)
        before = list(told)
        self.assertEqual((resists, draws, on), ([(1, 2), (1, 3)], [(1, 1), (2, 1)], [True, False]))
        told.clear()
        self.assertEqual(volts((9, 1), resists, draws, on), before)
        least_supply(resists, draws, (1, 1))
        self.assertEqual((resists, draws), ([(1, 2), (1, 3)], [(1, 1), (2, 1)]))
        kept = volts((9, 1), resists, draws, on)
        resists.append((1, 1))
        draws.clear()
        self.assertEqual(kept, before)


if __name__ == "__main__":
    unittest.main()
