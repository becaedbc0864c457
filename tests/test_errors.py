"""Point 2: the refusals and their bases."""

import unittest

from warnloop import errors

NAMES = (
    "NoPlan", "NoText", "NoStretch", "NoSpot", "NoOpener", "NoAddress", "NoRules", "NoHand", "NoPanel", "NoLink",
    "NoLog", "NoDeed", "NoRow",
)


class Bases(unittest.TestCase):
    def test_the_base_stands_straight_under_value_error(self):
        self.assertEqual(errors.HouseError.__bases__, (ValueError,))

    def test_each_other_stands_straight_under_the_base(self):
        for name in NAMES:
            with self.subTest(name=name):
                self.assertEqual(getattr(errors, name).__bases__, (errors.HouseError,))

    def test_none_stands_under_another(self):
        for one in NAMES:
            for other in NAMES:
                if one != other:
                    self.assertFalse(issubclass(getattr(errors, one), getattr(errors, other)), (one, other))

    def test_each_can_be_raised_with_words(self):
        for name in NAMES:
            with self.assertRaises(errors.HouseError):
                raise getattr(errors, name)("words")


if __name__ == "__main__":
    unittest.main()
