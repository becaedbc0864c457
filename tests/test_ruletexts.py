"""Point 22: rules written, and read again."""

import random
import re
import unittest

from rule_samples import EACH_KIND, KEY, OF, RULES, random_rules, tall, wide
from samples import ODD_THINGS, nested, part_at, paths_of, random_plan
from warnloop.errors import HouseError, NoText
from warnloop.rules import is_rules
from warnloop.ruletexts import read_rules, show_rules

RULES_TEXT = """sound 8 = term any
term any = (term fire or key 0)
term fire = (1 of hall or 2 of cellar)
sound 3 = (1 of hall then 1 of cellar within 2)
sound 7 = (term any and not hours 8 to 17)
sound 4 = not term any
term idle = (term fire then key 9 within 20)
"""

NUMBER = "(0|[1-9][0-9]?)"
LEAF = re.compile(f"(?<![a-z0-9])(?:{NUMBER} (of) ([a-z]+)|(key) {NUMBER}|(hours) {NUMBER} to {NUMBER}|(term) ([a-z]+))"
                  "(?![a-z0-9])")
PAIR = f"(?:(and|or) <([0-9]+)>|(then) <([0-9]+)> within {NUMBER})"
LARGER = re.compile(f"(?<![a-z0-9])(not) <([0-9]+)>|\\(<([0-9]+)> {PAIR}\\)")
HEAD = re.compile(f"(?:(term) ([a-z]+)|(sound) {NUMBER}) = (.*)")


def condition_by_form(text):
    """The condition that the text is written of, found by putting a mark for what is read, or None."""
    found = []

    def mark(told):
        found.append(told)
        return f"<{len(found) - 1}>"

    def leaf(hit):
        many, of, zone, key, turned, hours, begin, end, term, name = hit.groups()
        if of:
            return mark(("of", int(many), zone))
        if key:
            return mark(("key", int(turned)))
        return mark(("hours", int(begin), int(end)) if hours else ("term", name))

    def larger(hit):
        negated, one, first, word, second, then, later, many = hit.groups()
        if negated:
            return mark(("not", found[int(one)]))
        if word:
            return mark((word, found[int(first)], found[int(second)]))
        return mark(("then", found[int(first)], found[int(later)], int(many)))

    if "<" in text:
        return None
    text, more = LEAF.sub(leaf, text), 1
    while more:
        text, more = LARGER.subn(larger, text, count=1)
    return found[int(text[1:-1])] if re.fullmatch("<[0-9]+>", text) else None


def rules_by_form(text):
    """The rules that the text is written of, or None, by its form alone."""
    if text[-1:] != "\n":
        return None
    rows = []
    for row in text[:-1].split("\n"):
        hit = HEAD.fullmatch(row)
        condition = hit and condition_by_form(hit.group(5))
        if not condition:
            return None
        rows.append(("term", hit.group(2), condition) if hit.group(1) else ("sound", int(hit.group(4)), condition))
    return tuple(rows) if is_rules(tuple(rows)) else None


def kinds_of(thing):
    return [part_at(thing, path).__class__ for path in paths_of(thing)]


def deep_brackets(many):
    """Brackets within one another, so many open at once."""
    return "(" * many + "key 1" + " and key 1)" * many


class TextTests(unittest.TestCase):
    def reads(self, rules, text):
        self.assertEqual(show_rules(rules), text)
        told = read_rules(text)
        self.assertEqual(told, rules)
        self.assertEqual(kinds_of(told), kinds_of(rules))

    def refused(self, thing):
        with self.assertRaises(HouseError) as caught:
            read_rules(thing)
        self.assertIs(caught.exception.__class__, NoText)

    def judged(self, text):
        """Read just where its form says so; whether it was."""
        rules = rules_by_form(text)
        if rules is None:
            self.refused(text)
            return False
        self.assertEqual(read_rules(text), rules, text)
        return True


class Written(TextTests):
    def test_ordinary(self):
        self.reads(RULES, RULES_TEXT)

    def test_each_kind_of_condition(self):
        for told, text in (
            (("of", 1, "a"), "1 of a"), (("of", 9, "abcdefgh"), "9 of abcdefgh"), (("key", 0), "key 0"),
            (("key", 9), "key 9"), (("hours", 0, 23), "hours 0 to 23"), (("hours", 23, 0), "hours 23 to 0"),
            (("hours", 5, 5), "hours 5 to 5"), (("term", "a"), "term a"), (("term", "zzzzzzzz"), "term zzzzzzzz"),
            (("not", KEY), "not key 3"), (("not", ("not", OF)), "not not 1 of hall"),
            (("and", KEY, OF), "(key 3 and 1 of hall)"), (("or", OF, KEY), "(1 of hall or key 3)"),
            (("then", KEY, OF, 1), "(key 3 then 1 of hall within 1)"),
            (("then", OF, KEY, 20), "(1 of hall then key 3 within 20)"),
            (("not", ("and", ("not", KEY), ("or", KEY, OF))), "not (not key 3 and (key 3 or 1 of hall))"),
            (("then", ("then", KEY, OF, 2), ("then", OF, KEY, 3), 10),
             "((key 3 then 1 of hall within 2) then (1 of hall then key 3 within 3) within 10)"),
            (("and", ("and", KEY, KEY), KEY), "((key 3 and key 3) and key 3)"),
            (("and", KEY, ("and", KEY, KEY)), "(key 3 and (key 3 and key 3))"),
        ):
            self.reads((("term", "x", told),), f"term x = {text}\n")
            self.reads((("sound", 5, told),), f"sound 5 = {text}\n")

    def test_names_that_are_words_of_conditions(self):
        for name in ("of", "key", "hours", "term", "not", "and", "or", "then", "within", "to", "sound"):
            told = ("then", ("and", ("of", 1, name), ("term", name)), ("not", ("or", ("term", name), KEY)), 3)
            self.reads((("term", name, told),),
                       f"term {name} = ((1 of {name} and term {name}) then not (term {name} or key 3) within 3)\n")

    def test_addresses(self):
        for address in (1, 9, 10, 99):
            self.reads((("sound", address, KEY),), f"sound {address} = key 3\n")

    def test_bounds_from_within(self):
        self.reads((("term", "a", KEY),) * 16, "term a = key 3\n" * 16)
        self.reads((("term", "a", tall(6)),), "term a = not not not not not key 3\n")
        for many in (19, 20):
            rules = (("term", "a", wide(many)),)
            self.assertEqual(read_rules(show_rules(rules)), rules)

    def test_what_is_not_let_by(self):
        for rules in (
            (("term", "a", ("term", "a")),), (("sound", 5, KEY), ("sound", 5, KEY)), (("term", "a", ("of", 1, "x")),),
        ):
            self.assertEqual(read_rules(show_rules(rules)), rules)

    def test_seeded_rules(self):
        for seed in range(150):
            rules = random_rules(seed, random_plan(seed))
            text = show_rules(rules)
            if is_rules(rules):
                self.reads(rules, text)
                self.assertEqual(rules_by_form(text), rules)


class Spoilt(TextTests):
    SAMPLES = (
        RULES_TEXT,
        "term of = not (term of then not hours 10 to 20 within 15)\nsound 99 = (9 of not or (key 7 and key 8))\n",
        "sound 1 = key 1\n",
    )

    def test_one_sign_left_out(self):
        for text in self.SAMPLES:
            for at in range(len(text)):
                self.judged(text[:at] + text[at + 1:])

    def test_one_sign_doubled(self):
        for text in self.SAMPLES:
            for at in range(len(text)):
                self.judged(text[:at + 1] + text[at:])

    def test_another_sign(self):
        taken = 0
        for text in self.SAMPLES:
            for at in range(len(text)):
                for sign in " \n\t()=0129aztn%A~,.+-_\u0663\u00e9":
                    taken += self.judged(text[:at] + sign + text[at + 1:])
                    taken += self.judged(text[:at] + sign + text[at:])
        self.assertGreater(taken, 100)

    def test_two_signs_put_otherwise(self):
        for seed in range(3000):
            dice = random.Random(seed)
            signs = list(self.SAMPLES[seed % 2])
            for _ in range(2):
                at = dice.randrange(len(signs))
                signs[at] = dice.choice((signs[at] * 2, "", signs[dice.randrange(len(signs))], " ", "(", ")"))
            self.judged("".join(signs))

    def test_cut_anywhere(self):
        for text in self.SAMPLES:
            for at in range(len(text)):
                self.judged(text[:at])
                self.judged(text[at:])
                self.refused(text[:at] + "\n\n")

    def test_brackets(self):
        for body in (
            "key 1 and key 2", "(key 1 and key 2", "key 1 and key 2)", "((key 1 and key 2))", "(key 1)", "()", "(",
            ")", "not (key 1)", "(key 1 and key 2))", "(key 1 and key 2 and key 3)", "(key 1 and key 2) or key 3",
            "(key 1 then key 2)", "(key 1 then key 2 within 5", "(key 1 and key 2 within 5)", "[key 1 and key 2]",
            "(key 1 within 5 then key 2)", "(key 1 then key 2) within 5", "(not key 1) and key 2", "( key 1 or key 2)",
            "(key 1 or key 2 )", "(key 1 xor key 2)", "(key 1 key 2)", "(key 1 or)", "(or key 1)", "(key 1or key 2)",
            "(key 1or key 2)", "(key 1 or(key 2 or key 3))", "(key 1 or key 2)(key 1 or key 2)",
        ):
            self.assertFalse(self.judged(f"term a = {body}\n"), body)
            self.refused(f"term a = {body}\n")

    def test_leaves(self):
        for body in (
            "", " ", "key", "key ", "key  1", "key a", "key 1 ", " key 1", "key 1 2", "KEY 1", "keys 1", "1 key",
            "of hall", "1 of", "1 of ", "1 hall", "1  of hall", "a of hall", "1 of 1", "1 of Hall", "1 of hall cellar",
            "hours", "hours 1", "hours 1 to", "hours 1 2", "hours 1 to 2 to 3", "hours 1 till 2", "hour 1 to 2",
            "hours a to b", "term", "term ", "term 1", "term a b", "terms a", "not", "not ", "not  key 1", "notkey 1",
            "key 1 not", "nots key 1", "True", "None", "key True", "key 1.0", "key +1", "key -1", "key 1_0", "1of hall",
        ):
            self.refused(f"term a = {body}\n")

    def test_noughts_ahead(self):
        for body in ("key 01", "key 00", "01 of hall", "hours 00 to 1", "hours 1 to 00", "hours 08 to 17",
                     "hours 8 to 017", "(key 1 then key 2 within 05)"):
            self.refused(f"term a = {body}\n")
        self.refused("sound 05 = key 1\n")
        self.refused("sound 005 = key 1\n")

    def test_numbers_beyond_their_bounds(self):
        great = "9" * 5000
        for body in (
            "0 of hall", "10 of hall", "key 10", "hours 24 to 1", "hours 1 to 24", "(key 1 then key 2 within 0)",
            "(key 1 then key 2 within 21)", f"key {great}", f"{great} of hall", f"hours {great} to 1", "key -1",
            "(key 1 then key 2 within 100)", "hours 100 to 5",
        ):
            self.refused(f"term a = {body}\n")
        for address in ("0", "100", "-1", great, "", "a"):
            self.refused(f"sound {address} = key 1\n")

    def test_names_beyond_their_bounds(self):
        for name in ("", "a" * 9, "A", "a1", "a-b", "a_b", "a" * 5000):
            self.refused(f"term {name} = key 1\n")
            self.refused(f"term x = term {name}\n")
            self.refused(f"term x = 1 of {name}\n")

    def test_depths_and_counts_beyond_their_bounds(self):
        for deep in (7, 8, 20, 40):
            self.refused(show_rules((("term", "a", tall(deep)),)))
            self.refused(f"term a = {deep_brackets(deep - 1)}\n")
        self.assertEqual(len(read_rules(f"term a = {deep_brackets(5)}\n")), 1)
        for many in (21, 22, 31):
            self.refused(show_rules((("term", "a", wide(many)),)))
        self.refused("term a = " + "(" * 40 + "\n")
        self.refused("term a = " + ")" * 40 + "\n")
        # Forty brackets open at once, with so many "not" ahead of each that the text is nearly full.
        self.refused("term a = " + ("(" + "not " * 35) * 40 + "key 1\n")

    def test_rows(self):
        row = "term a = key 1\n"
        self.assertEqual(read_rules(row), (("term", "a", ("key", 1)),))
        for text in (
            "", "\n", " ", "term a = key 1", row + "\n", "\n" + row, row + row[:-1], row * 17, row * 300, row + " ",
            "term a\n", "term a =\n", "term a = \n", " = key 1\n", "a = key 1\n", "term = key 1\n", "term  = key 1\n",
            "sound = key 1\n", "sound  = key 1\n", "term a=key 1\n", "term a = = key 1\n", "term a == key 1\n",
            "term a = key 1 = key 2\n", "terms a = key 1\n", "sound a = key 1\n", "term 5 = key 1\n", "key 1\n",
            " term a = key 1\n", "term a  = key 1\n", "term a =  key 1\n", "term a b = key 1\n", "sound 5 6 = key 1\n",
            "bell 5 = key 1\n", "term a = key 1;\n", "term a = key 1\r\n", row.replace("\n", "\n\n") + row,
            "Term a = key 1\n", "term a = key 1\n\n\n",
        ):
            self.refused(text)
        self.assertEqual(len(read_rules(row * 16)), 16)

    def test_rows_left_out_and_doubled(self):
        rows = RULES_TEXT.splitlines(keepends=True)
        for at in range(len(rows)):
            # What is left is written of other rules, let by or not.
            self.assertEqual(read_rules("".join(rows[:at] + rows[at + 1:])), RULES[:at] + RULES[at + 1:])
            self.assertEqual(read_rules("".join(rows[:at + 1] + rows[at:])), RULES[:at + 1] + RULES[at:])
            self.refused("".join(rows[:at]) + rows[at].rstrip("\n") + "".join(rows[at:]))
            self.refused("".join(rows[:at]) + "\n" + "".join(rows[at:]))
        self.refused("".join(rows[:0]))
        self.refused("".join(rows + rows + rows))

    def test_things_that_are_no_text(self):
        for thing in ODD_THINGS + [RULES, list(RULES), (RULES_TEXT,), [RULES_TEXT], nested(12, RULES_TEXT), {}, 5]:
            self.refused(thing)


if __name__ == "__main__":
    unittest.main()
