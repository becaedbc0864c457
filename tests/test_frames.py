"""Point 12: frames and their checks."""

import unittest

from samples import NO_NUMBERS, ODD_THINGS, nested
from warnloop.frames import frame, is_frame


class Frames(unittest.TestCase):
    def fails(self, thing):
        self.assertIs(is_frame(thing), False)

    def test_frames_are_told(self):
        self.assertEqual(frame(1, 0, 0), (1, 0, 0, 3))
        self.assertEqual(frame(1, 1, 1), (1, 1, 1, 15))
        self.assertEqual(frame(99, 7, 255), (99, 7, 255, 61))
        self.assertEqual(frame(72, 1, 5), (72, 1, 5, 256))
        self.assertEqual(frame(74, 0, 5), (74, 0, 5, 0))

    def test_each_frame_is_one(self):
        for address in range(1, 100):
            for turn in range(8):
                for word in range(0, 256, 5):
                    self.assertIs(is_frame(frame(address, turn, word)), True)

    def test_just_one_check_fits(self):
        for address, turn, word in ((1, 0, 0), (99, 7, 255), (50, 3, 128), (74, 0, 5)):
            fits = [check for check in range(-600, 600) if is_frame((address, turn, word, check))]
            self.assertEqual(fits, [(3 * address + 5 * turn + 7 * word) % 257])

    def test_one_number_put_otherwise(self):
        for told in (frame(1, 0, 0), frame(99, 7, 255), frame(50, 3, 128), frame(86, 4, 37)):
            for at in range(4):
                for number in range(-400, 700):
                    if number != told[at]:
                        self.fails(told[:at] + (number,) + told[at + 1:])

    def test_bounds(self):
        for numbers in ((0, 0, 0), (100, 0, 0), (1, -1, 0), (1, 8, 0), (1, 0, -1), (1, 0, 256), (-5, 3, 9)):
            self.fails(frame(*numbers))
        for numbers in ((1, 0, 0), (99, 0, 0), (1, 7, 0), (1, 0, 255)):
            self.assertIs(is_frame(frame(*numbers)), True)

    def test_truths_for_numbers(self):
        self.assertIs(is_frame((1, 0, 0, 3)), True)
        self.fails((True, 0, 0, 3))
        self.fails((1, False, 0, 3))
        self.fails((1, 0, False, 3))
        self.fails((1, 1, True, 15))
        self.fails(frame(74, 0, 5)[:3] + (False,))

    def test_other_forms(self):
        told = frame(5, 6, 7)
        self.fails(list(told))
        self.fails(told[:3])
        self.fails(told + (0,))
        self.fails(told + told)
        self.fails((told,))
        self.fails(nested(10, told))
        self.fails("".join(str(number) for number in told))
        for at in range(4):
            for thing in NO_NUMBERS + [(told[at],), [told[at]], str(told[at])]:
                self.fails(told[:at] + (thing,) + told[at + 1:])

    def test_any_thing(self):
        for thing in ODD_THINGS:
            self.fails(thing)
            self.fails((thing,) * 4)
        many = 10 ** 5000
        self.fails((many, many, many, many))
        self.fails((1, 0, 0, 3 + 257 * many))
        self.fails((1 + 257 * many, 0, 0, 3))


if __name__ == "__main__":
    unittest.main()
