"""Points 18 to 20: conditions, rules, what is wrong with them, what they say."""

import random
import time
import unittest

from rule_samples import (
    EACH_KIND, HOURS, KEY, KEYS, OF, RULES, TERM, count_of, depth_of, random_history, random_rules, said, tall, wide,
)
from samples import GREATEST, NO_NUMBERS, ODD_THINGS, ORDINARY, SMALLEST, nested, part_at, paths_of, plan_of
from samples import random_plan, seeker, with_part
from warnloop.errors import HouseError, NoRules
from warnloop.rules import is_condition, is_rules, rules_wrong, says

NAMES_THAT_ARE_NONE = ["", "a" * 9, "A", "aB", "a b", "a1", "1", "a_", "a-b", "a\n", "\ta", "~", "ab%", "\u00e4"]


class Conditions(unittest.TestCase):
    def holds(self, thing):
        self.assertIs(is_condition(thing), True, thing)

    def fails(self, thing):
        self.assertIs(is_condition(thing), False, thing)

    def fails_with(self, told, at, thing):
        self.fails(told[:at] + (thing,) + told[at + 1:])

    def test_each_kind(self):
        for told in EACH_KIND:
            self.holds(told)

    def test_numbers_from_both_sides(self):
        bounds = [
            (lambda n: ("of", n, "hall"), 1, 9), (lambda n: ("key", n), 0, 9), (lambda n: ("hours", n, 5), 0, 23),
            (lambda n: ("hours", 5, n), 0, 23), (lambda n: ("then", KEY, OF, n), 1, 20),
        ]
        for make, low, high in bounds:
            for number in range(low, high + 1):
                self.holds(make(number))
            for number in (low - 1, high + 1, -1, -10 ** 5000, 10 ** 5000, 2 * high + 50):
                self.fails(make(number))
            for thing in (None, True, False, "1", (1,), [1], ""):
                self.fails(make(thing))

    def test_hours_of_every_pair(self):
        for begin in range(24):
            for end in range(24):
                self.holds(("hours", begin, end))

    def test_names(self):
        for make in (lambda name: ("of", 1, name), lambda name: ("term", name)):
            for name in ("a", "z", "term", "abcdefgh", "zzzzzzzz", "not"):
                self.holds(make(name))
            for name in NAMES_THAT_ARE_NONE + NO_NUMBERS:
                if name != "seeker":
                    self.fails(make(name))

    def test_six_and_seven_within_one_another(self):
        for leaf in (OF, KEY, HOURS, TERM):
            for deep in range(1, 7):
                self.holds(tall(deep, leaf))
            for deep in (7, 8, 9, 10):
                self.fails(tall(deep, leaf))
        for word, rest in (("and", ()), ("or", ()), ("then", (1,))):
            self.holds((word, KEY, tall(5)) + rest)
            self.holds((word, tall(5), KEY) + rest)
            self.fails((word, KEY, tall(6)) + rest)
            self.fails((word, tall(6), KEY) + rest)

    def test_twenty_and_twenty_one_in_all(self):
        for many in range(1, 21):
            self.assertEqual(count_of(wide(many)), many)
            self.assertLessEqual(depth_of(wide(many)), 6)
            self.holds(wide(many))
        for many in (21, 22, 23, 30, 31):
            self.assertEqual(count_of(wide(many)), many)
            self.assertLessEqual(depth_of(wide(many)), 6)
            self.fails(wide(many))

    def test_each_is_counted_as_often_as_it_stands(self):
        three = ("and", KEY, KEY)
        seven = ("or", three, three)
        fifteen = ("then", seven, seven, 1)
        self.holds(("and", ("and", fifteen, KEY), TERM))
        self.holds(("and", ("and", fifteen, KEY), ("not", TERM)))
        self.fails(("and", ("and", fifteen, KEY), ("not", ("not", TERM))))
        self.fails(("and", ("and", fifteen, KEY), three))

    def test_parts_left_out_and_doubled(self):
        for told in EACH_KIND:
            for at in range(len(told)):
                self.fails(told[:at] + told[at + 1:])
                if told[:at + 1] + told[at:] != ("not", "not", KEY):
                    self.fails(told[:at + 1] + told[at:])
            self.fails(told + told)
            self.fails((told,))
            self.fails(list(told))

    def test_parts_of_another_kind(self):
        for told in EACH_KIND:
            for path in paths_of(told):
                part = part_at(told, path)
                for thing in (None, True, "x y", [], (), {}, [part], (part,), 10 ** 5000, -7):
                    self.fails(with_part(told, path, thing))
                if isinstance(part, tuple):
                    self.fails(with_part(told, path, list(part)))
                if path and path[-1] == 0:
                    for word in ("many", "sound", "xor", "", "OF", "no", "nots", None, 1, ["not"], ("key",)):
                        self.fails(with_part(told, path, word))

    def test_words_of_other_forms(self):
        for word in ("of", "key", "hours", "term", "not", "and", "or", "then"):
            for rest in ((), (1,), ("a",), (KEY,), (KEY, KEY), (1, "a"), (1, 1), (KEY, KEY, 1), (KEY, KEY, KEY)):
                fits = {
                    "of": (1, "a"), "key": (1,), "hours": (1, 1), "term": ("a",), "not": (KEY,), "and": (KEY, KEY),
                    "or": (KEY, KEY), "then": (KEY, KEY, 1),
                }
                self.assertIs(is_condition((word,) + rest), fits[word] == rest, (word, rest))

    def test_truths_for_numbers(self):
        for number in (True, False):
            for told in (("key", number), ("of", number, "a"), ("hours", number, 0), ("hours", 0, number)):
                self.fails(told)
            self.fails(("then", KEY, KEY, number))
            self.fails(("not", ("key", number)))

    def test_any_thing(self):
        for thing in ODD_THINGS + [{}, nested(12, KEY), ("not",) * 3000, tuple([KEY] * 3000)]:
            self.fails(thing)
            self.fails(("not", thing))
            self.fails(("and", KEY, thing))
            self.fails(("then", thing, KEY, 1))
        shared = KEY
        for _ in range(5000):
            shared = ("and", shared, shared)
        self.fails(shared)


class Rules(unittest.TestCase):
    def holds(self, thing):
        self.assertIs(is_rules(thing), True, thing)

    def fails(self, thing):
        self.assertIs(is_rules(thing), False, thing)

    def test_ordinary(self):
        self.holds(RULES)
        for told in EACH_KIND:
            self.holds((("term", "a", told),))
            self.holds((("sound", 1, told),))

    def test_rows_from_both_sides(self):
        row = ("term", "a", KEY)
        self.fails(())
        for many in (1, 2, 15, 16):
            self.holds((row,) * many)
        for many in (17, 18, 300):
            self.fails((row,) * many)

    def test_addresses_from_both_sides(self):
        for address in (1, 2, 98, 99):
            self.holds((("sound", address, KEY),))
        for address in (0, 100, -1, 10 ** 5000, -10 ** 5000, True, False, None, "1", (1,), [1], "a"):
            self.fails((("sound", address, KEY),))

    def test_names(self):
        for name in ("a", "abcdefgh", "sound", "zzzzzzzz"):
            self.holds((("term", name, KEY),))
        for name in NAMES_THAT_ARE_NONE + NO_NUMBERS + [1, 5]:
            if name != "seeker":
                self.fails((("term", name, KEY),))

    def test_conditions_beyond_their_bounds(self):
        for told, fits in ((tall(6), True), (tall(7), False), (wide(20), True), (wide(21), False), (KEY, True)):
            for word, call in (("term", "a"), ("sound", 5)):
                self.assertIs(is_rules(((word, call, told),)), fits)
                self.assertIs(is_rules((("term", "x", KEY), (word, call, told))), fits)

    def test_parts_left_out_doubled_and_of_another_kind(self):
        for row in (("term", "a", KEY), ("sound", 5, ("not", OF))):
            for at in range(3):
                self.fails((row[:at] + row[at + 1:],))
                self.fails((row[:at + 1] + row[at:],))
            for path in paths_of((row,)):
                part = part_at((row,), path)
                for thing in (None, True, [], (), "x y", 10 ** 5000, [part], (part,)):
                    self.fails(with_part((row,), path, thing))
                if isinstance(part, tuple):
                    self.fails(with_part((row,), path, list(part)))
            for word in ("terms", "sounds", "", "key", "bell", None, 0, ["term"]):
                self.fails(((word,) + row[1:],))
            self.fails(row)
            self.fails(list((row,)))
            self.fails((row, row[:2]))
        self.fails((("term", 5, KEY),))
        self.fails((("sound", "a", KEY),))

    def test_rules_wrong_in_other_ways_are_rules(self):
        self.holds((("term", "a", ("term", "a")),))
        self.holds((("sound", 5, ("of", 9, "nowhere")),) * 2)

    def test_any_thing(self):
        for thing in ODD_THINGS + [{}, (RULES,), [RULES], KEY, (KEY,)]:
            self.fails(thing)
            self.fails((thing,))
            if thing != KEY:
                self.fails((("term", "a", thing),))


# Bells 3, 7, 8, doors 4, in this order; zones hall (1, 2) and cellar (5, 6, 20).
FINE = (("sound", 3, KEY), ("sound", 7, KEY), ("sound", 8, KEY))


class Wrong(unittest.TestCase):
    def told(self, *rows, plan=ORDINARY):
        return rules_wrong(plan, rows)

    def test_nothing(self):
        self.assertIsNone(rules_wrong(ORDINARY, RULES))
        self.assertIsNone(self.told(*FINE))
        self.assertIsNone(self.told(*FINE, ("sound", 4, KEY)))
        self.assertIsNone(self.told(*FINE, ("term", "a", ("term", "b")), ("term", "b", KEY)))
        self.assertIsNone(self.told(("term", "a", KEY), plan=SMALLEST))
        self.assertIsNone(self.told(*FINE, ("term", "hall", ("of", 9, "hall"))))
        for seed in range(60):
            self.assertIsNone(rules_wrong(ORDINARY, random_rules(seed)))

    def test_twice(self):
        self.assertEqual(self.told(*FINE, ("sound", 7, OF)), ("twice", 3))
        self.assertEqual(self.told(*FINE, ("term", "a", KEY), ("term", "b", KEY), ("term", "a", OF)), ("twice", 5))
        self.assertEqual(self.told(("sound", 3, KEY), ("sound", 3, KEY), ("sound", 3, KEY)), ("twice", 1))
        self.assertEqual(self.told(("term", "b", KEY), ("sound", 9, KEY), ("sound", 9, KEY), ("term", "b", KEY)),
                         ("twice", 2))

    def test_zones(self):
        self.assertEqual(self.told(*FINE, ("term", "a", ("of", 1, "attic"))), ("zone", 3, "attic"))
        self.assertEqual(self.told(*FINE, ("term", "hal", ("of", 1, "hal"))), ("zone", 3, "hal"))
        late = ("and", ("or", OF, ("not", ("of", 2, "x"))), ("then", ("of", 1, "y"), ("of", 1, "z"), 3))
        self.assertEqual(self.told(*FINE, ("term", "a", late), ("term", "b", ("of", 1, "w"))), ("zone", 3, "x"))
        self.assertEqual(self.told(("sound", 3, ("then", KEY, ("of", 1, "q"), 1)), ("sound", 7, ("of", 1, "p"))),
                         ("zone", 0, "q"))
        self.assertEqual(self.told(("sound", 3, ("then", ("of", 1, "q"), ("of", 1, "p"), 1))), ("zone", 0, "q"))
        self.assertEqual(self.told(("term", "a", OF), plan=SMALLEST), ("zone", 0, "hall"))

    def test_terms(self):
        self.assertEqual(self.told(*FINE, ("term", "a", TERM)), ("term", 3, "fire"))
        self.assertEqual(self.told(*FINE, ("term", "a", ("term", "hall"))), ("term", 3, "hall"))
        late = ("or", ("and", ("term", "a"), ("term", "x")), ("term", "y"))
        self.assertEqual(self.told(*FINE, ("term", "a", late), ("term", "b", ("term", "w"))), ("term", 3, "x"))
        self.assertEqual(self.told(("sound", 3, ("not", TERM)), *FINE[1:]), ("term", 0, "fire"))

    def test_bells(self):
        for address in (1, 2, 5, 20, 10, 9, 99):
            self.assertEqual(self.told(*FINE, ("term", "a", KEY), ("sound", address, KEY)), ("bell", 4))
        self.assertEqual(self.told(("sound", 4, KEY), ("sound", 2, KEY), ("sound", 1, KEY)), ("bell", 1))

    def test_still(self):
        self.assertEqual(self.told(("term", "a", KEY)), ("still", 3))
        self.assertEqual(self.told(FINE[0], FINE[2]), ("still", 7))
        self.assertEqual(self.told(FINE[2], FINE[0], ("sound", 4, KEY)), ("still", 7))
        self.assertEqual(self.told(FINE[0], FINE[1]), ("still", 8))
        # By the order of spots, not by that of addresses.
        plan = plan_of([seeker(1), ("bell", 9, ()), ("door", 6, (("bell", 5),))], [("bell", 2, ())])
        self.assertEqual(self.told(("term", "a", KEY), plan=plan), ("still", 9))
        self.assertEqual(self.told(("sound", 9, KEY), plan=plan), ("still", 5))
        self.assertEqual(self.told(("sound", 9, KEY), ("sound", 5, KEY), plan=plan), ("still", 2))
        self.assertIsNone(self.told(("sound", 9, KEY), ("sound", 5, KEY), ("sound", 2, KEY), plan=plan))

    def test_each_is_told_ahead_of_those_behind_it(self):
        steps = [
            ("twice", (("term", "k", KEY), ("term", "k", KEY)), 1),
            ("zone", (("term", "l", ("of", 1, "attic")),), 0),
            ("term", (("term", "m", ("term", "none")),), 0),
            ("bell", (("sound", 99, KEY),), 0),
            ("ring", (("term", "n", ("term", "n")),), None),
        ]
        for picked in range(1, 32):
            chosen = [step for bit, step in enumerate(steps) if picked >> bit & 1]
            rows, at = [], {}
            # Those that are told ahead stand behind.
            for word, more, offset in reversed(chosen):
                at[word] = len(rows) + (offset or 0)
                rows.extend(more)
            told = self.told(*rows)
            self.assertEqual(told[0], chosen[0][0])
            if told[0] == "ring":
                self.assertEqual(told, ("ring", ("n",)))
            else:
                self.assertEqual(told[1], at[told[0]])
            # The bells are still in all of these, and it is told last.
            self.assertNotEqual(told[0], "still")


def names_of(told):
    """The names of terms that stand in a condition."""
    found = [part_at(told, path) for path in paths_of(told)]
    return [part[1] for part in found if isinstance(part, tuple) and part[0] == "term"]


class Rings(unittest.TestCase):
    def check_ring(self, rules):
        told = rules_wrong(SMALLEST, rules)
        self.assertEqual(told[0], "ring")
        self.assertEqual(len(told), 2)
        names = told[1]
        self.assertIsInstance(names, tuple)
        self.assertTrue(names)
        self.assertEqual(len(set(names)), len(names))
        conditions = {row[1]: row[2] for row in rules if row[0] == "term"}
        for one, other in zip(names, names[1:] + names[:1]):
            self.assertIn(other, names_of(conditions[one]))
        return names

    def test_one_that_names_itself(self):
        self.assertEqual(self.check_ring((("term", "a", ("not", ("term", "a"))),)), ("a",))

    def test_two_and_more(self):
        for many in range(1, 17):
            names = "abcdefghijklmnop"[:many]
            rows = [("term", one, ("term", other)) for one, other in zip(names, names[1:] + names[0])]
            for turn in (0, 1, many // 2):
                self.assertEqual(sorted(self.check_ring(tuple(rows[turn:] + rows[:turn]))), list(names))
            self.assertEqual(sorted(self.check_ring(tuple(reversed(rows)))), list(names))

    def test_terms_that_lead_into_a_ring(self):
        ring = [("term", "x", ("or", KEY, ("term", "y"))), ("term", "y", ("then", ("term", "x"), KEY, 4))]
        lead = [("term", "a", ("term", "b")), ("term", "b", ("and", ("term", "free"), ("term", "y")))]
        free = [("term", "free", KEY), ("term", "out", ("term", "free"))]
        for rows in (lead + ring + free, free + lead + ring, ring + lead + free, list(reversed(lead + free + ring))):
            self.assertEqual(sorted(self.check_ring(tuple(rows))), ["x", "y"])

    def test_terms_that_a_ring_leads_to(self):
        rows = (
            ("term", "a", ("and", ("term", "free"), ("term", "b"))), ("term", "free", KEY),
            ("term", "b", ("and", ("term", "free"), ("term", "a"))),
        )
        self.assertEqual(sorted(self.check_ring(rows)), ["a", "b"])

    def test_two_rings(self):
        rows = (
            ("term", "a", ("term", "b")), ("term", "b", ("term", "a")),
            ("term", "c", ("term", "c")), ("term", "d", ("or", ("term", "a"), ("term", "c"))),
        )
        self.assertIn(sorted(self.check_ring(rows)), (["a", "b"], ["c"]))

    def test_the_same_question_the_same_answer(self):
        for seed in range(100):
            dice = random.Random(seed)
            names = "abcdefghijklmnop"[:dice.randint(1, 16)]
            rows = []
            for name in names:
                others = [("term", dice.choice(names)) for _ in range(2)] + [KEY]
                rows.append(("term", name, dice.choice([("or", *dice.sample(others, 2)), dice.choice(others), KEY])))
            rows = tuple(rows)
            if self.is_without_ring(rows):
                self.assertIsNone(rules_wrong(SMALLEST, rows))
            else:
                self.assertEqual(self.check_ring(rows), rules_wrong(SMALLEST, tuple(rows))[1])

    def is_without_ring(self, rows):
        """Whether no term leads to itself, by all the ways that there are."""
        leads = {name: set(names_of(told)) for _, name, told in rows}
        for _ in rows:
            leads = {name: ones.union(*[leads[one] for one in ones]) for name, ones in leads.items()}
        return not [name for name, ones in leads.items() if name in ones]


def beat(warned=(), turned=(), hour=0):
    return (warned, turned, hour)


class Says(unittest.TestCase):
    """What one condition says: it is put beside the bells that KEYS[0] alone wakes."""

    def holds(self, told, history, *terms):
        rules = (("sound", 8, told), ("sound", 3, KEYS[0]), ("sound", 7, KEYS[0])) + terms
        answer = says(ORDINARY, rules, history)
        self.assertIn(answer, ((), (8,)))
        return answer == (8,)

    def test_of(self):
        for many in range(1, 10):
            for warned in ((), (5,), (6, 20), (5, 6, 20), (1, 2, 5), (1, 2, 7, 99), (1, 5, 6, 20)):
                zone = len([address for address in warned if address in (5, 6, 20)])
                self.assertIs(self.holds(("of", many, "cellar"), [beat(warned)]), zone >= many)

    def test_keys(self):
        for key in range(1, 10):
            self.assertTrue(self.holds(KEYS[key], [beat(turned=(key,))]))
            self.assertTrue(self.holds(KEYS[key], [beat(turned=tuple(range(1, 10)))]))
            self.assertFalse(self.holds(KEYS[key], [beat(turned=tuple(n for n in range(1, 10) if n != key))]))

    def test_key_nought(self):
        rules = (("sound", 8, KEY), ("sound", 3, KEYS[0]), ("sound", 7, KEYS[0]))
        self.assertEqual(says(ORDINARY, rules, [beat(turned=(0,))]), (3, 7))

    def test_hours(self):
        for begin, end, hours in (
            (8, 17, range(8, 17)), (0, 23, range(23)), (0, 1, [0]), (23, 0, [23]), (22, 6, [22, 23, 0, 1, 2, 3, 4, 5]),
            (5, 5, range(24)), (0, 0, range(24)), (23, 23, range(24)), (5, 4, [n for n in range(24) if n != 4]),
            (23, 1, [23, 0]),
        ):
            told = [hour for hour in range(24) if self.holds(("hours", begin, end), [beat(hour=hour)])]
            self.assertEqual(told, list(sorted(hours)))

    def test_not_and_or(self):
        for turned in ((), (1,), (2,), (1, 2)):
            one, other = 1 in turned, 2 in turned
            history = [beat(turned=turned)]
            self.assertIs(self.holds(("not", KEYS[1]), history), not one)
            self.assertIs(self.holds(("and", KEYS[1], KEYS[2]), history), one and other)
            self.assertIs(self.holds(("or", KEYS[1], KEYS[2]), history), one or other)

    def test_only_now_counts(self):
        for many in (2, 60):
            past = [beat((1, 2), (1, 2, 3), 12)] * (many - 1)
            for told in (OF, KEYS[1], ("hours", 12, 13), ("and", OF, KEYS[1]), ("or", KEYS[1], KEYS[2])):
                self.assertTrue(self.holds(told, past))
                self.assertFalse(self.holds(told, past + [beat()]))
            self.assertFalse(self.holds(("not", OF), past))
            self.assertTrue(self.holds(("not", OF), past + [beat()]))

    def test_terms(self):
        for turned in ((), (1,)):
            history = [beat(turned=turned)]
            self.assertIs(self.holds(("term", "a"), history, ("term", "a", KEYS[1])), bool(turned))
            chain = [("term", one, ("not", ("term", other))) for one, other in zip("abcdefghijkl", "bcdefghijklm")]
            self.assertIs(self.holds(("term", "a"), history, *chain, ("term", "m", KEYS[1])), bool(turned))
            self.assertIs(self.holds(("term", "a"), history, ("term", "m", KEYS[1]), *reversed(chain)), bool(turned))

    def then_at(self, told, beats, now):
        """The history in which key 1 is turned at these beats and key 2 at the last, of number now."""
        history = [beat(turned=((1,) if at in beats else ()) + ((2,) if at == now else ())) for at in range(now + 1)]
        return self.holds(told, history)

    def test_then(self):
        for many in (1, 2, 5, 19, 20):
            told = ("then", KEYS[1], KEYS[2], many)
            for now in (0, 1, 2, 19, 20, 21, 30, 59):
                self.assertFalse(self.then_at(told, (), now))
                self.assertFalse(self.then_at(told, (now,), now))
                for at in range(now):
                    self.assertIs(self.then_at(told, (at,), now), now - at <= many, (many, now, at))

    def test_then_asks_for_what_is_now(self):
        told = ("then", KEYS[1], KEYS[2], 20)
        self.assertFalse(self.holds(told, [beat(turned=(1, 2)), beat()]))
        self.assertFalse(self.holds(told, [beat(turned=(1, 2))]))
        self.assertFalse(self.holds(told, [beat(turned=(2,)), beat(turned=(1,))]))
        self.assertTrue(self.holds(told, [beat(turned=(1,)), beat(turned=(2,))]))

    def test_then_within_one_another(self):
        # Key 1, behind it key 2 within two beats, behind both key 3 within two beats.
        told = ("then", ("then", KEYS[1], KEYS[2], 2), KEYS[3], 2)
        for row, truth in (
            ("123", True), ("1.2.3", True), ("1..23", False), ("12..3", False), ("213", False), ("1.23", True),
            ("23", False), ("13", False), ("1..2.3", False), ("12.3.", False),
        ):
            history = [beat(turned=() if sign == "." else (int(sign),)) for sign in row]
            self.assertIs(self.holds(told, history), truth, row)
        other = ("then", KEYS[1], ("then", KEYS[2], KEYS[3], 1), 2)
        for row, truth in (("123", True), ("1.23", False), ("12.3", False), ("213", False), ("3", False)):
            history = [beat(turned=() if sign == "." else (int(sign),)) for sign in row]
            self.assertIs(self.holds(other, history), truth, row)

    def test_then_behind_terms(self):
        terms = (("term", "a", ("then", KEYS[1], KEYS[2], 1)), ("term", "b", ("not", ("term", "a"))))
        told = ("then", ("term", "a"), ("term", "b"), 1)
        self.assertTrue(self.holds(told, [beat(turned=(1,)), beat(turned=(2,)), beat()], *terms))
        self.assertFalse(self.holds(told, [beat(turned=(1,)), beat(turned=(2,))], *terms))
        self.assertFalse(self.holds(told, [beat(turned=(2,)), beat()], *terms))

    def test_not_within_then(self):
        told = ("then", ("not", KEYS[1]), KEYS[2], 3)
        self.assertFalse(self.holds(told, [beat(turned=(2,))]))
        self.assertFalse(self.holds(told, [beat(turned=(1,)), beat(turned=(2,))]))
        self.assertTrue(self.holds(told, [beat(), beat(turned=(1, 2))]))

    def test_addresses_rise(self):
        rules = tuple(("sound", address, KEYS[1]) for address in (8, 3, 7, 4))
        self.assertEqual(says(ORDINARY, rules, [beat(turned=(1,))]), (3, 4, 7, 8))
        self.assertEqual(says(ORDINARY, rules, [beat()]), ())

    def test_no_sound_at_all(self):
        self.assertEqual(says(SMALLEST, (("term", "a", KEY),), [beat(turned=(3,))]), ())

    def test_a_short_time_at_sixty_beats(self):
        names = "abcdefghijklmn"
        deep = KEYS[1]
        rows = [("term", "a", KEYS[1])]
        for one, other in zip(names, names[1:]):
            inner = ("then", ("term", one), ("term", one), 20)
            deep = ("then", ("then", inner, inner, 20), ("then", inner, inner, 20), 20)
            rows.append(("term", other, deep))
        rows.append(("sound", 9, ("term", names[-1])))
        rows = tuple(reversed(rows))
        plan = plan_of([("bell", 9, ())])
        history = [beat(turned=(1,))] * 60
        begin = time.process_time()
        self.assertIn(says(plan, rows, history), ((), (9,)))
        self.assertLess(time.process_time() - begin, 2)
        self.assertEqual(says(plan, rows, history), said(plan, rows, history))

    def test_seeded_rules(self):
        for seed in range(60):
            plan = ORDINARY if seed % 2 else random_plan(seed)
            rules = random_rules(seed, plan)
            if rules_wrong(plan, rules) is not None:
                # More bells than rows of rules can be.
                continue
            dice = random.Random(seed)
            for many in (1, 2, 20, 60):
                history = random_history(dice, plan, many)
                kept = list(history)
                self.assertEqual(says(plan, rules, history), said(plan, rules, history))
                self.assertEqual(history, kept)


class NoRulesTold(unittest.TestCase):
    def refused(self, plan, rules):
        with self.assertRaises(HouseError) as caught:
            says(plan, rules, [beat()])
        self.assertIs(caught.exception.__class__, NoRules)

    def test_any_things(self):
        for thing in ODD_THINGS + [{}, [ORDINARY], list(ORDINARY), RULES, ORDINARY + ()]:
            if thing != ORDINARY:
                self.refused(thing, RULES)
            self.refused(ORDINARY, thing if thing != RULES else list(RULES))
            if thing not in (ORDINARY, RULES):
                self.refused(thing, thing)

    def test_each_part_put_otherwise(self):
        rules = (("sound", 8, ("then", OF, ("not", KEY), 5)), ("sound", 3, HOURS), ("sound", 7, TERM),
                 ("term", "fire", ("or", KEY, OF)))
        self.assertEqual(says(ORDINARY, rules, [beat(turned=(3,))]), (3, 7))
        for path in paths_of(rules):
            for thing in (None, [], (), "X", 10 ** 5000, True):
                self.refused(ORDINARY, with_part(rules, path, thing))
            part = part_at(rules, path)
            if isinstance(part, tuple):
                self.refused(ORDINARY, with_part(rules, path, list(part)))

    def test_rules_with_something_wrong(self):
        for more in (
            FINE[0], ("term", "a", ("of", 1, "attic")), ("term", "a", TERM), ("sound", 9, KEY),
            ("term", "a", ("term", "a")),
        ):
            self.refused(ORDINARY, FINE + (more,))
        self.refused(ORDINARY, FINE[1:])
        self.assertEqual(says(ORDINARY, FINE, [beat(turned=(3,))]), (3, 7, 8))

    def test_plans_that_are_not_let_by(self):
        rules = (("sound", 8, KEY),)
        fine = plan_of([seeker(1), ("bell", 8, ())])
        self.assertEqual(says(fine, rules, [beat(turned=(3,))]), (8,))
        self.refused(plan_of([seeker(8), ("bell", 8, ())]), rules)
        self.refused(plan_of([seeker(1), ("bell", 8, ())], most=1), rules)
        self.refused(plan_of([seeker(1), ("bell", 8, ())], zones=[("a", (2,))]), rules)
        self.refused(plan_of([seeker(1), ("bell", 8, ())], zones=[("a", (1,)), ("b", (1,))]), rules)
        self.refused(GREATEST, rules)

    def test_the_history_is_not_changed(self):
        history = [beat((1,), (3,), 5), beat((), (), 6)]
        says(ORDINARY, FINE, history)
        self.assertEqual(history, [beat((1,), (3,), 5), beat((), (), 6)])


if __name__ == "__main__":
    unittest.main()
