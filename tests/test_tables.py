"""Point 21: tables, their runs, and the tables of rules."""

import random
import time
import unittest

from rule_samples import HOURS, KEY, KEYS, OF, RULES, TERM, random_history, random_rules, said
from samples import GREATEST, ODD_THINGS, ORDINARY, SMALLEST, nested, part_at, paths_of, plan_of, random_plan
from samples import seeker, with_part
from warnloop.errors import HouseError, NoRules
from warnloop.rules import rules_wrong, says
from warnloop.tables import Runner, is_table, table_of

MANY = ("many", 2, (5, 6, 20))
TABLE = (
    (MANY, ("key", 3), ("hours", 22, 6), ("not", 0), ("and", 1, 2), ("or", 3, 4), ("then", 5, 1, 20)),
    ((4, 6), (8, 5)),
)


def table(*rows, outs=()):
    return (tuple(rows), tuple(outs))


class Tables(unittest.TestCase):
    def holds(self, thing):
        self.assertIs(is_table(thing), True, thing)

    def fails(self, thing):
        self.assertIs(is_table(thing), False, thing)

    def test_ordinary(self):
        self.holds(TABLE)
        self.holds(((), ()))
        self.holds(table(MANY))
        self.holds(table(MANY, MANY, outs=[(1, 1)]))

    def test_rows_from_both_sides(self):
        for many in (0, 1, 319, 320):
            self.holds(table(*[KEY] * many))
        for many in (321, 322, 1000):
            self.fails(table(*[KEY] * many))

    def test_numbers_from_both_sides(self):
        bounds = [
            (lambda n: ("many", n, (1,)), 1, 9), (lambda n: ("many", 1, (n,)), 1, 99), (lambda n: ("key", n), 0, 9),
            (lambda n: ("hours", n, 3), 0, 23), (lambda n: ("hours", 3, n), 0, 23),
        ]
        for make, low, high in bounds:
            for number in range(low, high + 1):
                self.holds(table(make(number)))
            for thing in (low - 1, high + 1, -1, -10 ** 5000, 10 ** 5000, None, True, False, "1", (1,), [1], ""):
                self.fails(table(make(thing)))
        for number in range(1, 21):
            self.holds(table(KEY, ("then", 0, 0, number)))
        for thing in (0, 21, -1, 10 ** 5000, None, True, "1", (1,)):
            self.fails(table(KEY, ("then", 0, 0, thing)))

    def test_addresses_of_many(self):
        for addresses in ((1,), (99,), (1, 99), tuple(range(1, 31)), tuple(range(70, 100))):
            self.holds(table(("many", 9, addresses)))
        for addresses in (
            (), tuple(range(1, 32)), (2, 1), (1, 1), (1, 2, 2), (1, 3, 2), (0, 1), (99, 100), (1, True), [1, 2], 5,
            None, "12", ((1,), (2,)), (1, "2"), (1, None),
        ):
            self.fails(table(("many", 1, addresses)))

    def test_rows_name_rows_ahead(self):
        for make in (
            lambda n: ("not", n), lambda n: ("and", n, 0), lambda n: ("and", 0, n), lambda n: ("or", n, 0),
            lambda n: ("or", 0, n), lambda n: ("then", n, 0, 1), lambda n: ("then", 0, n, 1),
        ):
            for ahead in (1, 2, 5, 319):
                for number in (0, ahead - 1):
                    self.holds(table(*[KEY] * ahead, make(number)))
                for number in (ahead, ahead + 1, -1, -ahead, 10 ** 5000, True, False, None, "0", (0,), [0], KEY):
                    self.fails(table(*[KEY] * ahead, make(number)))
            self.fails(table(make(0)))
            self.fails(table(make(0), KEY))
            self.fails(table(make(-1), KEY))
        self.holds(table(KEY, ("and", 0, 0), ("or", 1, 1), ("then", 2, 2, 1), ("not", 3)))

    def test_outs_from_both_sides(self):
        for many in (0, 1, 15, 16):
            self.holds(table(KEY, outs=[(address, 0) for address in range(1, many + 1)]))
        for many in (17, 18, 99):
            self.fails(table(KEY, outs=[(address, 0) for address in range(1, many + 1)]))
        for address in (1, 2, 98, 99):
            self.holds(table(KEY, outs=[(address, 0)]))
        for thing in (0, 100, -1, 10 ** 5000, True, None, "1", (1,), [1]):
            self.fails(table(KEY, outs=[(thing, 0)]))

    def test_outs_rise(self):
        self.holds(table(KEY, KEY, outs=[(1, 1), (2, 0), (99, 1)]))
        for outs in ([(2, 0), (1, 0)], [(1, 0), (1, 0)], [(1, 0), (1, 1)], [(1, 0), (3, 0), (2, 0)], [(5, 0), (5, 1)]):
            self.fails(table(KEY, KEY, outs=outs))

    def test_outs_name_rows(self):
        for many in (1, 2, 320):
            for number in (0, many - 1):
                self.holds(table(*[KEY] * many, outs=[(1, number)]))
            for thing in (many, many + 1, -1, -many, 10 ** 5000, True, False, None, "0", (0,)):
                self.fails(table(*[KEY] * many, outs=[(1, thing)]))
        for number in (0, 1, -1):
            self.fails(table(outs=[(1, number)]))

    def test_parts_left_out_doubled_and_of_another_kind(self):
        for path in paths_of(TABLE):
            part = part_at(TABLE, path)
            for thing in (None, True, False, [], "x y", {}, -7, 10 ** 5000, [part], (part,), nested(9)):
                self.fails(with_part(TABLE, path, thing))
            if isinstance(part, tuple):
                self.fails(with_part(TABLE, path, list(part)))
                if len(path) == 2:
                    for at in range(len(part)):
                        self.fails(with_part(TABLE, path, part[:at] + part[at + 1:]))
                        self.fails(with_part(TABLE, path, part[:at + 1] + part[at:]))
        self.fails(TABLE[:1])
        self.fails(TABLE + ((),))
        self.fails((TABLE[1], TABLE[0]))

    def test_rows_of_no_table(self):
        for row in (
            ("of", 1, "hall"), ("term", "a"), ("not", KEY), ("and", KEY, KEY), ("many", 1), ("many", 1, (1,), 1), (),
            ("key",), ("key", 1, 1), ("hours", 1), ("hours", 1, 1, 1), ("not",), ("not", 0, 0), ("and", 0), ("or", 0),
            ("and", 0, 0, 0), ("or", 0, 0, 0), ("then", 0, 0), ("then", 0, 0, 1, 1), ("xor", 0, 0), ("", 0), (0, 0),
            (("not",), 0), (["not"], 0), ("keys", 1), "key", ("sound", 1, KEY),
        ):
            self.fails(table(KEY, row))
            self.fails(table(KEY, row, KEY))

    def test_any_thing(self):
        for thing in ODD_THINGS + [{}, RULES, ORDINARY, (TABLE,), list(TABLE), nested(12, TABLE)]:
            self.fails(thing)
            self.fails((thing, thing) if thing != () else thing)
            self.fails(table(thing))
            self.fails(table(KEY, outs=[thing]))
            if thing != ():
                self.fails((thing, ()))
                self.fails(((), thing))


class Runs(unittest.TestCase):
    def row(self, told, beats):
        """What a runner tells at each of these beats."""
        runner = Runner(told)
        return [runner.beat(*brought) for brought in beats]

    def truths(self, told, beats):
        """The same of a table's last row."""
        answers = self.row((told, ((7, len(told) - 1),)), beats)
        for answer in answers:
            self.assertIn(answer, ((), (7,)))
        return [answer == (7,) for answer in answers]

    def test_a_table_of_no_row(self):
        self.assertEqual(self.row(((), ()), [((1, 2), (3,), 4)] * 3), [()] * 3)
        self.assertEqual(self.row((TABLE[0], ()), [((1, 2), (3,), 4)] * 3), [()] * 3)

    def test_many(self):
        for many in range(1, 10):
            for warned in ((), (5,), (5, 6), (5, 6, 20), (1, 5, 6, 99), (1, 2, 3)):
                found = len([address for address in warned if address in (5, 6, 20)])
                self.assertEqual(self.truths((("many", many, (5, 6, 20)),), [(warned, (), 0)]), [found >= many])

    def test_keys_and_hours(self):
        for key in range(10):
            self.assertEqual(self.truths((("key", key),), [((), (key,), 0), ((), (), 0)]), [True, False])
            others = tuple(other for other in range(10) if other != key)
            self.assertEqual(self.truths((("key", key),), [((), others, 0)]), [False])
        hours = [((), (), hour) for hour in range(24)]
        self.assertEqual(self.truths((("hours", 22, 6),), hours), [hour >= 22 or hour < 6 for hour in range(24)])
        self.assertEqual(self.truths((("hours", 6, 22),), hours), [6 <= hour < 22 for hour in range(24)])
        self.assertEqual(self.truths((("hours", 9, 9),), hours), [True] * 24)

    def test_not_and_or(self):
        beats = [((), turned, 0) for turned in ((), (1,), (2,), (1, 2))]
        rows = (KEYS[1], KEYS[2])
        self.assertEqual(self.truths(rows + (("not", 0),), beats), [True, False, True, False])
        self.assertEqual(self.truths(rows + (("and", 0, 1),), beats), [False, False, False, True])
        self.assertEqual(self.truths(rows + (("or", 0, 1),), beats), [False, True, True, True])
        self.assertEqual(self.truths(rows + (("and", 1, 1),), beats), [False, False, True, True])

    def test_then(self):
        for many in (1, 2, 19, 20):
            rows = (KEYS[1], KEYS[2], ("then", 0, 1, many))
            for wait in range(1, 25):
                beats = [((), (1,), 0)] + [((), (), 0)] * (wait - 1) + [((), (2,), 0)]
                self.assertEqual(self.truths(rows, beats)[-1], wait <= many)
            self.assertEqual(self.truths(rows, [((), (1, 2), 0)] * 3), [False, True, True])
            self.assertEqual(self.truths(rows, [((), (1,), 0), ((), (), 0)]), [False, False])

    def test_then_of_a_row_with_itself(self):
        rows = (KEYS[1], ("then", 0, 0, 2))
        turned = [(1,), (), (1,), (), (), (1,), (1,)]
        self.assertEqual(self.truths(rows, [((), keys, 0) for keys in turned]),
                         [False, False, True, False, False, False, True])

    def test_then_over_a_long_run(self):
        rows = (KEYS[1], ("not", 0), ("then", 0, 1, 20))
        turned = [(1,)] + [()] * 30 + [(1,)] * 100 + [()] * 25
        expected = [not keys and (1,) in turned[max(0, at - 20):at] for at, keys in enumerate(turned)]
        self.assertEqual(self.truths(rows, [((), keys, 0) for keys in turned]), expected)

    def test_outs(self):
        told = (KEYS[:3], ((2, 2), (5, 0), (9, 0), (11, 1)))
        beats = [((), turned, 0) for turned in ((), (0,), (1,), (2,), (0, 1, 2))]
        self.assertEqual(self.row(told, beats), [(), (5, 9), (11,), (2,), (2, 5, 9, 11)])

    def test_two_runners_of_one_table_share_nothing(self):
        told = (KEYS[:3] + (("then", 1, 2, 1),), ((7, 3),))
        one, other = Runner(told), Runner(told)
        self.assertEqual(one.beat((), (1,), 0), ())
        self.assertEqual(other.beat((), (2,), 0), ())
        self.assertEqual(one.beat((), (2,), 0), (7,))
        self.assertEqual(other.beat((), (2,), 0), ())

    def test_a_great_table_in_a_short_time(self):
        rows = [KEYS[1]]
        for at in range(1, 320):
            rows.append(("then", at - 1, at - 1, 20))
        runner = Runner((tuple(rows), ((7, 319),)))
        begin = time.process_time()
        for _ in range(60):
            runner.beat((), (1,), 0)
        self.assertLess(time.process_time() - begin, 2)


class TablesOfRules(unittest.TestCase):
    def check_table(self, plan, rules):
        told = table_of(plan, rules)
        self.assertIs(is_table(told), True)
        rows, outs = told
        self.assertEqual(len(set(rows)), len(rows))
        named = {number for _, number in outs}
        for row in rows:
            if row[0] in ("not", "and", "or", "then"):
                named |= set(row[1:3] if row[0] != "not" else row[1:2])
        self.assertEqual(named, set(range(len(rows))))
        self.assertEqual([address for address, _ in outs],
                         sorted([address for word, address, _ in rules if word == "sound"]))
        self.assertEqual(table_of(plan, rules), told)
        return told

    def check_says(self, plan, rules, history):
        runner = Runner(table_of(plan, rules))
        for at, brought in enumerate(history):
            self.assertEqual(runner.beat(*brought), said(plan, rules, history[:at + 1]))
        return says(plan, rules, history)

    def test_ordinary(self):
        self.check_table(ORDINARY, RULES)
        history = random_history(random.Random(1), ORDINARY, 60)
        self.check_says(ORDINARY, RULES, history)

    def test_no_sound_is_a_table_of_no_row(self):
        self.assertEqual(table_of(SMALLEST, (("term", "a", KEY),)), ((), ()))
        self.assertEqual(Runner(((), ())).beat((), (3,), 0), ())

    def test_one_row(self):
        plan = plan_of([seeker(5), seeker(2), ("bell", 9, ())], zones=[("hall", (2, 5))])
        self.assertEqual(table_of(plan, (("sound", 9, OF),)), ((("many", 1, (2, 5)),), ((9, 0),)))
        self.assertEqual(table_of(plan, (("sound", 9, KEY),)), ((("key", 3),), ((9, 0),)))
        self.assertEqual(table_of(plan, (("sound", 9, HOURS),)), ((("hours", 22, 6),), ((9, 0),)))

    def test_each_kind_of_row(self):
        told = self.check_table(ORDINARY, (
            ("sound", 8, ("then", ("and", KEY, OF), ("or", HOURS, ("not", KEY)), 7)),
            ("sound", 3, KEY), ("sound", 7, OF),
        ))
        self.assertEqual(sorted(row[0] for row in told[0]), ["and", "hours", "key", "many", "not", "or", "then"])

    def test_alike_rows_are_put_together(self):
        same = ("or", ("and", KEY, OF), ("and", KEY, OF))
        told = self.check_table(ORDINARY, (
            ("sound", 8, same), ("sound", 3, ("term", "a")), ("sound", 7, same), ("term", "a", ("term", "b")),
            ("term", "b", same),
        ))
        self.assertEqual(len(told[0]), 4)
        self.assertEqual({number for _, number in told[1]}, {3})

    def test_terms_that_no_sound_needs_leave_no_rows(self):
        told = self.check_table(ORDINARY, (
            ("term", "x", ("not", ("term", "y"))), ("term", "y", ("then", KEYS[5], KEYS[6], 2)), ("sound", 8, KEY),
            ("sound", 3, KEY), ("sound", 7, ("term", "z")), ("term", "z", KEY),
        ))
        self.assertEqual(told[0], (KEY,))

    def test_a_term_of_a_term_alone(self):
        told = self.check_table(ORDINARY, (
            ("sound", 8, ("term", "a")), ("term", "a", ("term", "b")), ("term", "b", ("term", "c")),
            ("term", "c", ("not", KEY)), ("sound", 3, KEY), ("sound", 7, KEY),
        ))
        self.assertEqual(len(told[0]), 2)

    def test_the_greatest(self):
        plan = plan_of([("bell", address, ()) for address in range(1, 13)], [("door", 20 + n, ()) for n in range(4)])
        leaves = [("hours", at, other) for at in range(24) for other in range(24) if at != other]
        rows = []
        for number, address in enumerate(list(range(1, 13)) + [20, 21, 22, 23]):
            row = leaves[number * 10:number * 10 + 10]
            while len(row) > 1:
                word = ("and", "or")[len(row) % 2]
                row = [(word, row[at], row[at + 1]) for at in range(0, len(row) - 1, 2)] + row[len(row) // 2 * 2:]
            rows.append(("sound", address, ("not", row[0])))
        rows = tuple(rows)
        self.assertIsNone(rules_wrong(plan, rows))
        self.assertEqual(len(self.check_table(plan, rows)[0]), 320)
        self.check_says(plan, rows, [((), (), hour) for hour in range(24)])

    def test_seeded_rules(self):
        heard = set()
        for seed in range(120):
            plan = ORDINARY if seed % 2 else random_plan(seed)
            rules = random_rules(seed, plan)
            if rules_wrong(plan, rules) is not None:
                # More bells than rows of rules can be.
                continue
            self.check_table(plan, rules)
            heard.add(self.check_says(plan, rules, random_history(random.Random(seed), plan, 60)))
        self.assertGreater(len(heard), 10)

    def test_terms_in_any_order(self):
        rules = (
            ("term", "a", ("then", ("term", "b"), ("term", "c"), 3)), ("sound", 3, ("not", ("term", "a"))),
            ("term", "b", ("or", ("term", "c"), KEY)), ("sound", 7, ("term", "b")),
            ("term", "c", ("not", ("of", 1, "cellar"))), ("sound", 8, ("term", "a")),
        )
        history = random_history(random.Random(3), ORDINARY, 30)
        for seed in range(20):
            rows = list(rules)
            random.Random(seed).shuffle(rows)
            self.check_table(ORDINARY, tuple(rows))
            self.check_says(ORDINARY, tuple(rows), history)


class NoRulesTold(unittest.TestCase):
    def refused(self, plan, rules):
        with self.assertRaises(HouseError) as caught:
            table_of(plan, rules)
        self.assertIs(caught.exception.__class__, NoRules)

    def test_any_things(self):
        for thing in ODD_THINGS + [{}, list(ORDINARY), list(RULES), TABLE, GREATEST]:
            self.refused(thing, RULES)
            self.refused(ORDINARY, thing)
            self.refused(thing, thing)
        self.refused(RULES, ORDINARY)

    def test_each_part_put_otherwise(self):
        rules = (("sound", 8, ("then", OF, ("not", KEY), 5)), ("sound", 3, HOURS), ("sound", 7, TERM),
                 ("term", "fire", ("or", KEY, OF)))
        table_of(ORDINARY, rules)
        for path in paths_of(rules):
            for thing in (None, [], (), "X", 10 ** 5000, True):
                self.refused(ORDINARY, with_part(rules, path, thing))

    def test_what_is_not_let_by(self):
        fine = (("sound", 3, KEY), ("sound", 7, KEY), ("sound", 8, KEY))
        for more in (
            ("sound", 3, KEY), ("term", "a", ("of", 1, "attic")), ("term", "a", TERM), ("sound", 9, KEY),
            ("term", "a", ("term", "a")),
        ):
            self.refused(ORDINARY, fine + (more,))
        self.refused(ORDINARY, fine[1:])
        self.refused(plan_of([seeker(8), ("bell", 8, ())]), (("sound", 8, KEY),))
        self.refused(plan_of([seeker(1), ("bell", 8, ())], most=1), (("sound", 8, KEY),))


if __name__ == "__main__":
    unittest.main()
