"""Point 2: whole numbers, tuples and rising rows among things of any kind."""

import unittest

from samples import NO_NUMBERS, ODD_THINGS
from warnloop.things import SIGNS, are_rising_within, are_wholes, is_line, is_name, is_rising, is_row, is_whole
from warnloop.things import is_within


class Numbers(unittest.TestCase):
    def test_a_truth_is_no_whole_number(self):
        self.assertIs(is_whole(True), False)
        self.assertIs(is_whole(False), False)

    def test_whole_numbers_of_any_size(self):
        for number in (0, 1, -1, 10 ** 5000, -(10 ** 5000)):
            self.assertIs(is_whole(number), True)

    def test_other_things_are_none(self):
        for thing in (None, "", "1", (), [], (1,), [1]):
            self.assertIs(is_whole(thing), False)

    def test_bounds_from_both_sides(self):
        for number, answer in ((0, False), (1, True), (3, True), (4, False), (10 ** 5000, False)):
            self.assertIs(is_within(number, 1, 3), answer)
        self.assertIs(is_within(True, 1, 3), False)

    def test_things_that_are_within_nothing(self):
        for thing in NO_NUMBERS:
            self.assertIs(is_within(thing, 0, 99), False, thing)


class Rows(unittest.TestCase):
    def test_a_list_is_no_row(self):
        self.assertIs(is_row([1], 1, 1), False)
        self.assertIs(is_row((1,), 1, 1), True)

    def test_lengths_from_both_sides(self):
        for many, answer in ((0, False), (1, True), (3, True), (4, False)):
            self.assertIs(is_row((1,) * many, 1, 3), answer)

    def test_rows_of_whole_numbers(self):
        self.assertIs(are_wholes((1, 0, -5), 3), True)
        for thing in ((1, 0), (1, 0, 0, 0), (True, 0, 0), [1, 0, 0], (1, None, 0), (1, "0", 0), (1, (0,), 0)):
            self.assertIs(are_wholes(thing, 3), False, thing)

    def test_rising(self):
        self.assertTrue(is_rising(()))
        self.assertTrue(is_rising((5,)))
        self.assertTrue(is_rising((1, 2, 9)))
        self.assertFalse(is_rising((1, 1)))
        self.assertFalse(is_rising((1, 3, 2)))

    def test_rising_rows_within_bounds(self):
        self.assertIs(are_rising_within((1, 99), 1, 2, 1, 99), True)
        for thing in ((), (1, 2, 3), (0, 1), (1, 100), (2, 1), (1, 1), [1, 2], (1, "2"), (True, 2), ("1", 2)):
            self.assertIs(are_rising_within(thing, 1, 2, 1, 99), False, thing)

    def test_any_thing_is_answered(self):
        for thing in ODD_THINGS:
            self.assertIn(is_row(thing, 0, 3), (True, False))
            self.assertIn(are_wholes(thing, 3), (True, False))
            self.assertIn(are_rising_within(thing, 0, 3, 0, 9), (True, False))


class Names(unittest.TestCase):
    def test_names(self):
        for name in ("a", "z", "abcdefgh", "loop"):
            self.assertIs(is_name(name), True, name)

    def test_no_names(self):
        for thing in ("", "abcdefghi", "A", "aB", "a1", "a b", "a-b", "a\n", " a", "\u00e9", "{", "`", "a\t"):
            self.assertIs(is_name(thing), False, thing)
        for thing in (None, True, 1, ("a",), ["a"], ()):
            self.assertIs(is_name(thing), False, thing)


class Lines(unittest.TestCase):
    def test_signs(self):
        self.assertEqual(SIGNS, "".join(chr(number) for number in range(32, 127) if number != 37))

    def test_lines(self):
        for many in (1, 2, 94):
            self.assertIs(is_line(SIGNS[:many], 1, 94), True)
        self.assertIs(is_line("", 0, 5), True)
        for thing in ("", "123456", "a%", "a\n", "a\t", "\x7f", "\x1f", "\u00e9", None, True, 1, ("a",), ["a"], ()):
            self.assertIs(is_line(thing, 1, 5), False, thing)


if __name__ == "__main__":
    unittest.main()
