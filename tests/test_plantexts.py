"""Point 7: plans written, and read again."""

import random
import re
import unittest

from samples import GREATEST, ODD_THINGS, OPENER, ORDINARY, SMALLEST, paths_of, part_at, plan_of, random_plan, seeker
from warnloop.errors import NoText
from warnloop.plans import is_plan, wrong
from warnloop.plantexts import read_plan, show_plan

ORDINARY_TEXT = """most 4
loop
seeker 1
knob 2 : bell 3
opener
door 4 : seeker 5, seeker 6, bell 7
opener
bell 8
loop
opener
seeker 20
opener
opener
knob 10
opener
zone hall 1 2
zone cellar 5 6 20
"""

NUMBER = "[1-9][0-9]?"
DEVICE = f"(?:seeker|knob|bell|door) {NUMBER}"
PLACE = f"(?:opener|{DEVICE}(?: : {DEVICE}(?:, {DEVICE})*)?)\n"
WHOLE = re.compile(f"most {NUMBER}\n(?:loop\n(?:{PLACE})+)+(?:zone [a-z]+(?: {NUMBER})+\n)*")

NOT_LET_BY = (
    plan_of([seeker(1), seeker(1)]),
    plan_of([seeker(1), seeker(2)], most=1),
    plan_of([seeker(1)], zones=[("a", (9,))]),
    plan_of([seeker(1)], zones=[("a", (1,)), ("b", (1,))]),
)


def plan_by_form(text):
    """The plan that the text is written of, found by the form of its rows, or None."""
    if not WHOLE.fullmatch(text):
        return None
    loops, zones, most = [], [], 0
    for row in text.splitlines():
        word, *rest = re.findall("[a-z]+|[0-9]+", row)
        if word == "most":
            most = int(rest[0])
        elif word == "loop":
            loops.append(())
        elif word == "zone":
            zones.append((rest[0], tuple(map(int, rest[1:]))))
        elif word == "opener":
            loops[-1] += (OPENER,)
        else:
            spur = tuple((kind, int(number)) for kind, number in zip(rest[1::2], rest[2::2]))
            loops[-1] += ((word, int(rest[0]), spur),)
    plan = (most, tuple(loops), tuple(zones))
    return plan if is_plan(plan) else None


class Texts(unittest.TestCase):
    def refused(self, thing):
        with self.assertRaises(NoText) as caught:
            read_plan(thing)
        self.assertIs(type(caught.exception), NoText)

    def same(self, one, other):
        self.assertEqual(one, other)
        for path in paths_of(other):
            self.assertIs(type(part_at(one, path)), type(part_at(other, path)), path)

    def judged(self, text):
        """The text is read, or refused, as the form of its rows says."""
        plan = plan_by_form(text)
        if plan is None:
            self.refused(text)
        else:
            self.same(read_plan(text), plan)

    def test_shown_sign_by_sign(self):
        self.assertEqual(show_plan(ORDINARY), ORDINARY_TEXT)
        self.assertEqual(show_plan(SMALLEST), "most 30\nloop\nseeker 1\n")
        self.assertEqual(show_plan(NOT_LET_BY[0]), "most 30\nloop\nseeker 1\nseeker 1\n")
        plan = (1, ((OPENER,), (("bell", 99, (("door", 10),)),), (OPENER, OPENER)), (("zone", (9, 10)),))
        rows = ["most 1", "loop", "opener", "loop", "bell 99 : door 10", "loop", "opener", "opener", "zone zone 9 10"]
        self.assertEqual(show_plan(plan), "".join(row + "\n" for row in rows))

    def test_read_again_the_same(self):
        for plan in (SMALLEST, ORDINARY, GREATEST) + NOT_LET_BY:
            self.same(read_plan(show_plan(plan)), plan)
        self.same(read_plan(ORDINARY_TEXT), ORDINARY)
        for seed in range(200):
            plan = random_plan(seed)
            self.same(read_plan(show_plan(plan)), plan)

    def test_plans_not_let_by_are_read(self):
        for plan in NOT_LET_BY:
            self.assertIsNotNone(wrong(read_plan(show_plan(plan))))

    def test_zones_called_like_other_rows(self):
        names = ("loop", "zone", "most", "opener", "seeker", "knob", "bell", "door")
        plan = plan_of([seeker(1)], zones=[(name, (1, 20)) for name in names])
        self.same(read_plan(show_plan(plan)), plan)

    def test_the_longest_text(self):
        zones = [("abcdefg" + sign, tuple(range(70, 100))) for sign in "hijklmno"]
        plan = plan_of([("seeker", 99, (("seeker", 98),) * 3)] * 7, [OPENER] * 12, [seeker(10)] * 2, zones=zones)
        self.same(read_plan(show_plan(plan)), plan)

    def test_each_sign_left_out_or_doubled(self):
        for text in (ORDINARY_TEXT, show_plan(SMALLEST), show_plan(NOT_LET_BY[3])):
            for at in range(len(text)):
                self.judged(text[:at] + text[at + 1:])
                self.judged(text[:at + 1] + text[at:])

    def test_each_sign_put_otherwise(self):
        for text in (ORDINARY_TEXT, show_plan(SMALLEST)):
            for at in range(len(text)):
                for sign in " \n\t0159aorz,:;-+_~A\r\x0b\x1c\u0661\u00b2":
                    self.judged(text[:at] + sign + text[at + 1:])
                    self.judged(text[:at] + sign + text[at:])

    def test_rows_left_out_doubled_and_put_elsewhere(self):
        rows = ORDINARY_TEXT.splitlines(keepends=True)
        dice = random.Random(7)
        for at in range(len(rows)):
            self.judged("".join(rows[:at] + rows[at + 1:]))
            self.judged("".join(rows[:at + 1] + rows[at:]))
            for other in range(len(rows)):
                moved = rows[:at] + rows[at + 1:]
                moved.insert(other, rows[at])
                self.judged("".join(moved))
        for _ in range(300):
            self.judged("".join(dice.sample(rows, dice.randint(1, len(rows)))))

    def test_rows_that_no_plan_has(self):
        rows = ORDINARY_TEXT.splitlines(keepends=True)
        for row in (
            "\n", " \n", "most 4\n", "loop \n", " loop\n", "loops\n", "loop 1\n", "Loop\n", "opener 0\n", "opener \n",
            "opener : bell 9\n", "opener 0 : bell 9\n", "opener 1\n", "seeker\n", "seeker \n", "seeker 9 \n",
            "seeker  9\n", " seeker 9\n", "seeker 9 :\n", "seeker 9 : \n", "seeker 9 : bell\n", "seeker 9: bell 11\n",
            "seeker 9 :bell 11\n", "seeker 9 : bell 11,\n", "seeker 9 : bell 11, \n", "seeker 9 : bell 11,bell 12\n",
            "seeker 9 : bell 11 , bell 12\n", "seeker 9 : bell 11 : bell 12\n", "seeker 9 : opener\n",
            "seeker 9 : opener 0\n", "panel 9\n", "9 seeker\n", "seeker 9, bell 11\n", "seeker nine\n", "seeker -9\n",
            "seeker +9\n", "seeker 9.0\n", "seeker 1_1\n", "seeker 0x9\n", "seeker x9\n", "seeker 9x\n", "zone\n",
            "zone \n", "zone a\n", "zone a \n", "zone  a 1\n", "zone a  1\n", "zone a 1 \n", "zone a 1, 2\n",
            "zone a : 1\n", "zone 1\n", "zone 1 2\n",
            "zone a b\n", "zone a 1 b\n", "zone A 1\n", "zone a1 1\n", "zone a-b 1\n", "zones a 1\n", "zonea 1\n",
        ):
            for at in range(len(rows) + 1):
                self.refused("".join(rows[:at] + [row] + rows[at:]))

    def test_a_nought_ahead(self):
        for text in (
            "most 030\nloop\nseeker 1\n", "most 01\nloop\nseeker 1\n", "most 1\nloop\nseeker 01\n",
            "most 1\nloop\nseeker 1 : bell 02\n", "most 1\nloop\nseeker 1\nzone a 01\n",
            "most 1\nloop\nseeker 1\nzone a 1 02\n", "most 1\nloop\nseeker 001\n",
        ):
            self.refused(text)

    def test_numbers_beyond_their_bounds(self):
        for number, fair in (
            ("0", False), ("1", True), ("30", True), ("31", False), ("99", False), ("100", False),
            ("1" + "0" * 4999, False),
        ):
            text = f"most {number}\nloop\nseeker 1\n"
            self.assertEqual(plan_by_form(text) is not None, fair)
            self.judged(text)
        for row in ("seeker {}", "seeker 5 : bell {}", "seeker 1\nzone a {}"):
            for number in ("0", "100", "00", "", "1" + "0" * 4999):
                self.refused("most 1\nloop\n" + row.format(number) + "\n")
            for number in ("1", "9", "10", "99"):
                self.judged("most 1\nloop\n" + row.format(number) + "\n")
                read_plan("most 1\nloop\n" + row.format(number) + "\n")

    def test_lengths_beyond_their_bounds(self):
        head = "most 30\nloop\nseeker 1\n"
        for fair, text in (
            (True, head + "opener\n" * 11), (False, head + "opener\n" * 12),
            (False, "most 30\n"), (False, "most 30\nloop\n"), (False, "most 30\nloop\nopener\n"),
            (True, head + "loop\nopener\n" * 2), (False, head + "loop\nopener\n" * 3),
            (False, head + "loop\n"), (False, "most 30\nloop\n" + head[8:]),
            (True, head[:-1] + " : bell 2, bell 3, bell 4\n"),
            (False, head[:-1] + " : bell 2, bell 3, bell 4, bell 5\n"),
            (True, head + "zone abcdefgh 1\n"), (False, head + "zone abcdefghi 1\n"),
            (True, head + "".join(f"zone {sign} 1\n" for sign in "abcdefgh")),
            (False, head + "".join(f"zone {sign} 1\n" for sign in "abcdefghi")),
            (False, head + "zone a 1\nzone a 2\n"), (False, head + "zone a 1\nzone b 2\nzone a 3\n"),
            (True, head + "zone a " + " ".join(str(n) for n in range(1, 31)) + "\n"),
            (False, head + "zone a " + " ".join(str(n) for n in range(1, 32)) + "\n"),
            (False, head + "zone a 2 1\n"), (False, head + "zone a 1 1\n"),
            (True, "most 1\n" + ("loop\n" + "seeker 1 : bell 2\n" * 5) * 3),
            (False, "most 1\n" + ("loop\n" + "seeker 1 : bell 2\n" * 5) * 2 + "loop\n" + "seeker 1\n" * 11),
        ):
            self.assertEqual(plan_by_form(text) is not None, fair, text)
            self.judged(text)

    def test_line_ends(self):
        self.refused("")
        self.refused("\n")
        self.refused("\n\n")
        self.refused(ORDINARY_TEXT[:-1])
        self.refused(ORDINARY_TEXT + "\n")
        self.refused("\n" + ORDINARY_TEXT)
        self.refused(ORDINARY_TEXT + " ")
        self.refused(ORDINARY_TEXT.replace("\n", "\r\n"))
        self.refused(ORDINARY_TEXT.replace("\n", " "))
        self.refused(ORDINARY_TEXT * 2)

    def test_long_texts_of_nothing(self):
        for sign in ("\n", " ", "loop\n", "zone \n", "1", "most 1\n", "seeker 1 : ", ", "):
            self.refused(sign * 1000)
            self.refused("most 1\nloop\n" + sign * 1000 + "\n")

    def test_things_that_are_no_text(self):
        for thing in ODD_THINGS:
            if thing != "most 1\nloop\nseeker 1\n":
                self.refused(thing)
        self.refused(SMALLEST)
        self.refused([ORDINARY_TEXT])
        self.refused((ORDINARY_TEXT,))
        self.refused(ORDINARY_TEXT.splitlines())


if __name__ == "__main__":
    unittest.main()
