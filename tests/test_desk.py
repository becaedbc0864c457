"""Point 43: the rows that a desk takes, its answers sign by sign, and its refusals."""

import copy
import itertools
import random
import unittest

from rule_samples import RULES, random_history, random_rules, said
from samples import GREATEST, ODD_THINGS, OPENER, ORDINARY, SMALLEST, nested, plan_of, random_plan, seeker
from warnloop.desk import Desk
from warnloop.errors import HouseError, NoPlan, NoRow, NoRules, NoStretch, NoText
from warnloop.finding import told_place
from warnloop.plans import stretches
from warnloop.plantexts import show_plan
from warnloop.ruletexts import show_rules
from warnloop.wires import Wires

PLAN = "plan\n" + show_plan(ORDINARY)
RULES_ROW = "rules\n" + show_rules(RULES)
ALL_OF_0 = "0.1.0 0.2.0 0.2.1 0.4.0 0.4.1 0.4.2 0.4.3 0.6.0"
# Fair rows of each form, each with what the kept desk answers.
FAIR_ROWS = {
    "cut 0 2 0": "ok", "short 0 4 2": "ok", "mend 0 2 0": "ok", "heard 0 A": ALL_OF_0, "heard 1 B": "1.2.0 1.5.0",
    "parted": "none", "where 0": "whole", "beat 12": "4", "beat 0 warned 1": "7 8", "beat 23 keys 0": "7 8",
    "beat 12 warned 1 20 keys 0 9": "8",
}


def kept_desk():
    """A desk that keeps ORDINARY and RULES."""
    desk = Desk()
    assert [desk.say(PLAN), desk.say(RULES_ROW)] == ["kept", "kept"]
    return desk


def planned(*loops, most=30, zones=()):
    return "plan\n" + show_plan(plan_of(*loops, most=most, zones=zones))


class Told(unittest.TestCase):
    def refused(self, desk, thing):
        """The refusal alone, none that stands under another."""
        kept = copy.deepcopy(thing)
        with self.assertRaises(HouseError) as caught:
            desk.say(thing)
        self.assertEqual(thing, kept)
        return type(caught.exception)

    def state(self, desk):
        """All that can be asked of a desk without a change."""
        told = []
        for row in ("parted", "heard 0 A", "heard 0 B", "heard 1 A", "heard 1 B", "where 0", "where 1"):
            try:
                told.append(desk.say(row))
            except HouseError as error:
                told.append(type(error))
        return told


class Plans(Told):
    def test_kept(self):
        for plan in (SMALLEST, ORDINARY, GREATEST):
            self.assertEqual(Desk().say("plan\n" + show_plan(plan)), "kept")

    def test_what_is_wrong(self):
        desk = Desk()
        for row, answer in (
            (planned([seeker(1), seeker(7), seeker(7)]), "twice 7"),
            (planned([seeker(1)], [seeker(2), OPENER, seeker(3), seeker(4)], most=1), "crowded 1 1"),
            (planned([seeker(1)], zones=[("hall", (1, 9))]), "stranger hall 9"),
            (planned([("bell", 1, ()), seeker(99)], zones=[("b", (1, 99))]), "stranger b 1"),
            (planned([seeker(1), seeker(2)], zones=[("a", (1,)), ("b", (1, 2))]), "shared b 1"),
            (planned([seeker(1), seeker(1), seeker(2)], most=1, zones=[("a", (9,)), ("b", (9,))]), "twice 1"),
        ):
            self.assertEqual(desk.say(row), answer)
            self.assertIs(self.refused(desk, "parted"), NoPlan)

    def test_what_is_wrong_changes_nothing(self):
        desk = kept_desk()
        desk.say("cut 0 2 0")
        before = self.state(desk)
        self.assertEqual(desk.say(planned([seeker(1), seeker(1)])), "twice 1")
        self.assertEqual(self.state(desk), before)
        self.assertEqual(desk.say("beat 12"), "4")

    def test_no_texts_of_plans(self):
        text = show_plan(ORDINARY)
        for desk in (Desk(), kept_desk()):
            before = self.state(desk)
            for row in ("plan\n", "plan\n\n", "plan\nmost 1", "plan\n" + text[:-1], "plan\n" + text + "\n",
                        "plan\n " + text, "plan\n" + text.replace("most 4", "most 04"), "plan\nplan\n" + text,
                        "plan\n" + text.replace("loop", "Loop"), "plan\n" + show_rules(RULES), "plan\nmost 1\nloop\n"):
                self.assertIs(self.refused(desk, row), NoText)
            self.assertEqual(self.state(desk), before)

    def test_a_plan_told_anew(self):
        desk = kept_desk()
        for row in ("cut 0 2 0", "short 1 3 0"):
            desk.say(row)
        self.assertNotEqual(desk.say("parted"), "none")
        self.assertEqual(desk.say(PLAN), "kept")
        self.assertEqual((desk.say("parted"), desk.say("heard 0 A")), ("none", ALL_OF_0))
        self.assertIs(self.refused(desk, "beat 12"), NoRules)
        self.assertEqual(desk.say(RULES_ROW), "kept")
        self.assertEqual(desk.say("beat 12"), "4")

    def test_another_plan_told_anew(self):
        desk = kept_desk()
        desk.say(planned([seeker(5)]))
        self.assertEqual(desk.say("heard 0 B"), "0.1.0")
        self.assertIs(self.refused(desk, "heard 1 A"), NoStretch)
        self.assertIs(self.refused(desk, "beat 12"), NoRules)


class Rules(Told):
    def test_kept(self):
        for seed in range(20):
            desk = Desk()
            desk.say(PLAN)
            self.assertEqual(desk.say("rules\n" + show_rules(random_rules(seed))), "kept")

    def test_what_is_wrong(self):
        still = "sound 3 = key 1\nsound 7 = key 1\nsound 8 = key 1\n"
        desk = Desk()
        desk.say(PLAN)
        for text, answer in (
            (still + "term a = key 1\nterm a = key 2\n", "twice 4"),
            (still + "sound 3 = key 1\n", "twice 3"),
            (still + "term a = (1 of hall and 2 of attic)\n", "zone 3 attic"),
            (still + "term a = not term b\n", "term 3 b"),
            ("sound 1 = key 1\n" + still, "bell 0"),
            ("sound 50 = key 1\n", "bell 0"),
            (still + "term a = term a\n", "ring a"),
            ("sound 3 = key 1\nsound 8 = key 1\n", "still 7"),
            ("term a = key 1\n", "still 3"),
        ):
            self.assertEqual(desk.say("rules\n" + text), answer)
            self.assertIs(self.refused(desk, "beat 0"), NoRules)

    def test_rings_of_several(self):
        desk = Desk()
        desk.say(PLAN)
        answer = desk.say("rules\nterm a = term b\nterm b = (key 1 or term c)\nterm c = not term a\n")
        self.assertIn(answer, ("ring a b c", "ring b c a", "ring c a b"))

    def test_what_is_wrong_changes_nothing(self):
        desk = kept_desk()
        rules = "sound 3 = key 1\nsound 7 = (key 1 then key 2 within 3)\nsound 8 = key 9\n"
        desk.say("rules\n" + rules)
        desk.say("beat 0 keys 1")
        self.assertEqual(desk.say("rules\nsound 1 = key 1\n"), "bell 0")
        self.assertIs(self.refused(desk, "rules\nsound 1"), NoText)
        self.assertEqual(desk.say("beat 0 keys 2"), "7")

    def test_a_run_begins_anew(self):
        desk = kept_desk()
        rules = "rules\nsound 3 = key 1\nsound 7 = (key 1 then key 2 within 3)\nsound 8 = key 9\n"
        desk.say(rules)
        desk.say("beat 0 keys 1")
        self.assertEqual(desk.say(rules), "kept")
        self.assertEqual(desk.say("beat 0 keys 2"), "none")

    def test_no_texts_of_rules(self):
        text = show_rules(RULES)
        for desk in (Desk(), kept_desk()):
            for row in ("rules\n", "rules\n\n", "rules\n" + text[:-1], "rules\n" + text + "\n", "rules\n " + text,
                        "rules\nrules\n" + text, "rules\n" + show_plan(ORDINARY), "rules\nterm a = key 01\n"):
                self.assertIs(self.refused(desk, row), NoText)

    def test_no_plan(self):
        desk = Desk()
        self.assertIs(self.refused(desk, RULES_ROW), NoPlan)
        self.assertIs(self.refused(desk, "rules\nsound 50 = key 1\n"), NoPlan)
        self.assertIs(self.refused(desk, "beat 0"), NoPlan)


class Wired(Told):
    def test_rows_and_answers(self):
        desk = Desk()
        for row, answer in (
            (PLAN, "kept"), ("heard 0 A", ALL_OF_0), ("heard 0 B", ALL_OF_0), ("parted", "none"), ("where 0", "whole"),
            ("short 0 4 2", "ok"), ("parted", "0.3 0.5"), ("heard 0 A", "0.1.0 0.2.0 0.2.1"), ("heard 0 B", "0.6.0"),
            ("where 0", "0.3.0 short; 0.4.0 short; 0.4.1 short; 0.4.2 short; 0.4.3 short"), ("where 1", "whole"),
            ("mend 0 4 2", "ok"), ("parted", "none"), ("where 0", "whole"), ("cut 0 2 0", "ok"),
            ("heard 0 A", "0.1.0 0.2.0 0.2.1"), ("heard 0 B", "0.4.0 0.4.1 0.4.2 0.4.3 0.6.0"),
            ("where 0", "0.2.0 cut; 0.3.0 cut"), ("cut 0 5 0", "ok"), ("heard 0 B", "0.6.0"),
            ("where 0", "0.3.0 short; 0.4.0 short; 0.4.1 short; 0.4.2 short; 0.4.3 short"),
            ("cut 0 6 0", "ok"), ("heard 0 B", "none"), ("where 0", "more"), ("short 1 0 0", "ok"),
            ("parted", "1.0 1.1"),
            ("heard 1 A", "none"), ("heard 1 B", "1.2.0 1.5.0"), ("where 1", "1.0.0 cut; 1.0.0 short; 1.1.0 cut"),
            (PLAN, "kept"), ("where 1", "whole"),
        ):
            self.assertEqual(desk.say(row), answer, row)

    def test_the_last_that_is_done_holds(self):
        desk = kept_desk()
        for row in ("cut 0 0 0", "short 0 0 0", "cut 0 0 0"):
            desk.say(row)
        self.assertEqual((desk.say("parted"), desk.say("heard 0 A")), ("none", "none"))

    def test_greater_numbers(self):
        desk = Desk()
        desk.say("plan\n" + show_plan(GREATEST))
        self.assertEqual(desk.say("cut 0 12 0"), "ok")
        self.assertEqual(desk.say("heard 0 B"), "none")
        self.assertEqual(desk.say("short 1 12 3"), "ok")
        self.assertEqual(desk.say("parted"), "1.11 1.13")

    def test_stretches_that_there_are_not(self):
        desk = kept_desk()
        before = self.state(desk)
        for numbers in ("2 0 0", "0 7 0", "0 0 1", "0 3 1", "0 2 2", "0 4 4", "99 99 99", "1 7 0", "10 0 0"):
            for word in ("cut", "short", "mend"):
                self.assertIs(self.refused(desk, f"{word} {numbers}"), NoStretch)
        for loop in ("2", "3", "10", "99"):
            for row in (f"heard {loop} A", f"heard {loop} B", f"where {loop}"):
                self.assertIs(self.refused(desk, row), NoStretch)
        self.assertEqual(self.state(desk), before)

    def test_seeded_deeds(self):
        for seed in range(40):
            dice, plan = random.Random(seed), random_plan(seed)
            desk, wires = Desk(), Wires(plan)
            self.assertEqual(desk.say("plan\n" + show_plan(plan)), "kept")
            for _ in range(10):
                stretch, word = dice.choice(stretches(plan)), dice.choice(("cut", "short", "mend"))
                self.assertEqual(desk.say(" ".join([word] + [str(number) for number in stretch])), "ok")
                {"cut": wires.cut, "short": wires.short, "mend": wires.mend}[word](stretch)
                wires.come_to_rest()
                self.check(desk, plan, wires)

    def check(self, desk, plan, wires):
        self.assertEqual(desk.say("parted"), " ".join(f"{a}.{b}" for a, b in wires.parted()) or "none")
        for loop in range(len(plan[1])):
            for end in "AB":
                spots = " ".join(f"{a}.{b}.{c}" for a, b, c in wires.heard(loop, end))
                self.assertEqual(desk.say(f"heard {loop} {end}"), spots or "none")
            word, *rest = told_place(plan, loop, tuple(wires.heard(loop, "A")), tuple(wires.heard(loop, "B")))
            if rest:
                word = "; ".join(f"{a}.{b}.{c} {how}" for (a, b, c), how in rest[0])
            self.assertEqual(desk.say(f"where {loop}"), word)


class Beats(Told):
    def test_as_rules_say(self):
        for seed in range(40):
            dice, rules = random.Random(seed), random_rules(seed)
            desk = Desk()
            desk.say(PLAN)
            desk.say("rules\n" + show_rules(rules))
            history = random_history(dice, ORDINARY, 25)
            for at, (warned, turned, hour) in enumerate(history, start=1):
                words = ["beat", hour] + (["warned", *warned] if warned else []) + (["keys", *turned] if turned else [])
                answer = " ".join(str(address) for address in said(ORDINARY, rules, history[:at]))
                self.assertEqual(desk.say(" ".join(str(word) for word in words)), answer or "none")

    def test_bounds(self):
        desk = kept_desk()
        thirty = " ".join(str(number) for number in range(1, 31))
        last = " ".join(str(number) for number in range(70, 100))
        for row in ("beat 0", "beat 23", "beat 9", "beat 10", "beat 5 warned 1", "beat 5 warned 99", "beat 5 keys 0",
                    "beat 5 keys 9", f"beat 5 warned {thirty}", f"beat 5 warned {last}",
                    "beat 5 keys 0 1 2 3 4 5 6 7 8 9", f"beat 5 warned {thirty} keys 0 1 2 3 4 5 6 7 8 9"):
            self.assertRegex(desk.say(row), r"^(none|[0-9 ]+)$")

    def test_no_rows(self):
        thirty_one = " ".join(str(number) for number in range(1, 32))
        for desk in (Desk(), kept_desk()):
            for row in (
                "beat", "beat ", "beat 24", "beat 99", "beat -1", "beat 05", "beat 00", "beat 005",
                "beat 100", "beat x",
                "beat 5 ", "beat 5 6", "beat 5 warned", "beat 5 keys", "beat 5 warned keys 1", "beat 5 warned 1 keys",
                "beat 5 warned 0", "beat 5 warned 100", "beat 5 warned 2 1", "beat 5 warned 1 1", "beat 5 warned 01",
                f"beat 5 warned {thirty_one}", "beat 5 keys 10", "beat 5 keys 1 0", "beat 5 keys 3 3", "beat 5 keys 00",
                "beat 5 keys 1 warned 1", "beat 5 warned 1 warned 2", "beat 5 keys 1 keys 2", "beat 5 Warned 1",
                "beat 5  warned 1", "beat 5 warned  1", "beat 5 warned 1 ", " beat 5", "beat warned 1", "beat keys 1",
                "beat 5 warned 1 2 keys 1 x", "beat 5 warned 1 x", "beat 5 warned 1,2", "beat 5\n",
                "beat\n5", "beat\t5",
                "beat 5 warned -1", "beat 5 keys -1", "beat 5 warned +1", "beat 5 keys 9 10", "Beat 5", "beat5",
            ):
                self.assertIs(self.refused(desk, row), NoRow)

    def test_what_is_refused_is_no_beat(self):
        desk = kept_desk()
        desk.say("rules\nsound 3 = (key 1 then key 2 within 1)\nsound 7 = key 9\nsound 8 = key 9\n")
        desk.say("beat 0 keys 1")
        for row in ("beat 24", "beat 0 keys 10", "beat 0 keys 2 1", "cut 9 9 9"):
            self.refused(desk, row)
        self.assertEqual(desk.say("beat 0 keys 2"), "3")


class Refusals(Told):
    def test_fair_rows(self):
        for row, answer in FAIR_ROWS.items():
            self.assertEqual(kept_desk().say(row), answer)

    def test_what_is_no_text(self):
        for desk in (Desk(), kept_desk()):
            for thing in ODD_THINGS + [("parted",), ["parted"], nested(12, "parted"), 10 ** 5000]:
                self.assertIs(self.refused(desk, thing), NoRow)

    def test_rows_of_another_form(self):
        for desk in (Desk(), kept_desk()):
            for row in (
                "", " ", "\n", "plan", "rules", "plan ", "rules ", "Plan\nmost 1\nloop\nseeker 1\n", "plan \nmost 1\n",
                " plan\n", "rule\nsound 3 = key 1\n", "plans\n", "rules \n", "parted ", " parted",
                "parted\n", "parted 0",
                "Parted", "cut", "cut 0", "cut 0 0", "cut 0 0 0 0", "cut 0 0 0 ", "cut  0 0 0",
                "cut 0  0 0", "cut 0,0,0",
                "cut 0.0.0", "cut 00 0 0", "cut 0 00 0", "cut 0 0 00", "cut 01 0 0", "cut 0 0 100", "cut 100 0 0",
                "cut -1 0 0", "cut +0 0 0", "cut a b c", "cut 0 0 0\n", "cut\n0 0 0", "cut\t0 0 0",
                "Cut 0 0 0", "cut000",
                "mend", "mend 0 0", "short 0 0 0x", "heard", "heard 0", "heard A", "heard 0 C",
                "heard 0 a", "heard 0 AB",
                "heard 0 A B", "heard 0 A ", "heard  0 A", "heard 00 A", "heard 100 A", "heard -1 A", "heard A 0",
                "heard 0 A\n", "heard x A", "where", "where ", "where 0 0", "where 00", "where A",
                "where 100", "where 0 ",
                "where 0\n", "where\n0", "none", "ok", "kept", "say parted", "cut 0 0 \u0661", "where \u0660", "%",
            ):
                self.assertIs(self.refused(desk, row), NoRow, row)

    def test_a_sign_put_otherwise_left_out_or_put_in(self):
        desk = kept_desk()
        for row in FAIR_ROWS:
            for at, sign in itertools.product(range(len(row) + 1), " x0%\n~"):
                for changed in (row[:at] + sign + row[at + 1:], row[:at] + row[at + 1:], row[:at] + sign + row[at:]):
                    if self.is_form(changed):
                        continue
                    self.assertIs(self.refused(desk, changed), NoRow, changed)

    def is_form(self, row):
        """Whether the row has one of the forms, told once more by hand."""
        words = row.split(" ")
        numbers = [str(number) for number in range(100)]
        if words[0] in ("cut", "short", "mend"):
            return len(words) == 4 and all(word in numbers for word in words[1:])
        if words[0] == "heard":
            return len(words) == 3 and words[1] in numbers and words[2] in ("A", "B")
        if words[0] == "where":
            return len(words) == 2 and words[1] in numbers
        if words[0] != "beat":
            return row == "parted"
        if len(words) < 2 or words[1] not in numbers[:24]:
            return False
        rest, fair = words[2:], [("warned", numbers[1:]), ("keys", numbers[:10])]
        for name, bounds in fair:
            if rest[:1] == [name]:
                told = list(itertools.takewhile(lambda word: word in bounds, rest[1:]))
                if not told or [int(word) for word in told] != sorted({int(word) for word in told}):
                    return False
                rest = rest[1 + len(told):]
        return not rest

    def test_no_plan(self):
        desk = Desk()
        for row in FAIR_ROWS:
            self.assertIs(self.refused(desk, row), NoPlan)
        for row in ("cut 99 99 99", "heard 99 A", "where 99"):
            self.assertIs(self.refused(desk, row), NoPlan)

    def test_no_rules(self):
        desk = Desk()
        desk.say(PLAN)
        for row in ("beat 0", "beat 23 warned 1 keys 0"):
            self.assertIs(self.refused(desk, row), NoRules)
        self.assertEqual(desk.say("parted"), "none")

    def test_the_first_by_its_order(self):
        empty, plan_alone = Desk(), Desk()
        plan_alone.say(PLAN)
        self.assertIs(self.refused(empty, "beat 24"), NoRow)
        self.assertIs(self.refused(plan_alone, "beat 24"), NoRow)
        self.assertIs(self.refused(empty, "beat 23"), NoPlan)
        self.assertIs(self.refused(empty, "rules\nx"), NoText)
        self.assertIs(self.refused(empty, "rules"), NoRow)
        self.assertIs(self.refused(empty, "cut 9 9 x"), NoRow)
        self.assertIs(self.refused(empty, "cut 9 9 9"), NoPlan)
        self.assertIs(self.refused(plan_alone, "cut 9 9 9"), NoStretch)

    def test_what_is_refused_changes_nothing(self):
        desk = kept_desk()
        desk.say("short 0 4 2")
        before = self.state(desk)
        for thing in ODD_THINGS + ["plan", "plan\nx", "rules\nx", "cut 9 9 9", "beat 24", "heard 9 A", "mend 0 4"]:
            self.refused(desk, thing)
        self.assertEqual(self.state(desk), before)
        self.assertEqual(desk.say("beat 12"), "4")

    def test_two_share_nothing(self):
        one, other = Desk(), Desk()
        one.say(PLAN)
        self.assertIs(self.refused(other, "parted"), NoPlan)
        other.say(PLAN)
        one.say(RULES_ROW)
        self.assertIs(self.refused(other, "beat 0"), NoRules)
        one.say("cut 0 0 0")
        self.assertEqual(other.say("heard 0 A"), ALL_OF_0)
        one, other = kept_desk(), kept_desk()
        rules = "rules\nsound 3 = (key 1 then key 2 within 9)\nsound 7 = key 9\nsound 8 = key 9\n"
        one.say(rules)
        other.say(rules)
        one.say("beat 0 keys 1")
        self.assertEqual((other.say("beat 0 keys 2"), one.say("beat 0 keys 2")), ("none", "3"))

    def test_answers_are_texts(self):
        desk = kept_desk()
        for row in list(FAIR_ROWS) + [PLAN, RULES_ROW]:
            self.assertIs(type(desk.say(row)), str)


if __name__ == "__main__":
    unittest.main()
