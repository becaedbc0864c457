"""Points 27 and 28: notes, their records, and journals cut anywhere."""

import random
import unittest

from samples import ODD_THINGS
from warnloop.errors import HouseError, NoText
from warnloop.journal import Journal, read_journal, record

FORTY = "0123456789 abcdefghijklmnopqrstuvwxyz~!{"
NOTES = ["first 7 0", "", "a", FORTY, "~" * 40, " ", "warning 7 3 4 5", "", "knob 2"]
NO_NOTES = ["x" * 41, "50%", "%", "a\n", "\n", "\t", "a\tb", "\x00", "\x7f", "\u00e9", "x" * 6000, b"a", "\ud800"]


def cells_of(notes, first=0):
    return [cell for number, note in enumerate(notes) for cell in record(first + number, note)]


def ends_of(notes):
    """How many cells the first notes have, for each number of them."""
    told = [0]
    for note in notes:
        told.append(told[-1] + len(note) + 4)
    return told


class Records(unittest.TestCase):
    def test_by_hand(self):
        self.assertEqual(record(0, ""), [0, 0, 60, 180])
        self.assertEqual(record(1, ""), [1, 0, 60, 181])
        self.assertEqual(record(5, "a"), [5, 1, 59, 97, 5 + 2 + 177 + 388])
        self.assertEqual(record(0, "~~"), [0, 2, 58, 126, 126, (4 + 174 + 504 + 630) % 997])

    def test_check_by_its_words(self):
        for number, note in enumerate(NOTES):
            cells = record(number, note)
            self.assertEqual(len(cells), len(note) + 4)
            self.assertEqual(cells[:3], [number, len(note), 60 - len(note)])
            self.assertEqual(cells[3:-1], [ord(sign) for sign in note])
            total = 0
            for place in range(1, len(cells)):
                total += place * cells[place - 1]
            self.assertEqual(cells[-1], total - total // 997 * 997)

    def test_numbers(self):
        for number, first in ((0, 0), (1, 1), (899, 899), (900, 0), (901, 1), (1799, 899), (1_000_000, 100)):
            self.assertEqual(record(number, "note")[0], first)
        self.assertEqual(record(900, "note"), record(0, "note"))

    def test_each_sign(self):
        for number in range(32, 127):
            if number != 37:
                self.assertEqual(record(0, chr(number))[3], number)
                self.assertEqual(read_journal(record(0, chr(number))), [chr(number)])

    def test_lengths(self):
        for many in (0, 1, 39, 40):
            self.assertEqual(record(0, "x" * many)[1:3], [many, 60 - many])

    def test_refusals(self):
        for thing in NO_NOTES + ODD_THINGS + [("a",), ["a"], [97], 10 ** 5000]:
            if isinstance(thing, str) and thing in ("", "1", "seeker"):
                continue
            for number in (0, 1_000_000):
                with self.assertRaises(HouseError) as caught:
                    record(number, thing)
                self.assertIs(caught.exception.__class__, NoText)

    def test_told_anew(self):
        told = record(0, "a")
        told.clear()
        self.assertEqual(len(record(0, "a")), 5)


class Reading(unittest.TestCase):
    def test_whole(self):
        self.assertEqual(read_journal(cells_of(NOTES)), NOTES)
        self.assertEqual(read_journal([]), [])
        self.assertEqual(read_journal(cells_of([""])), [""])

    def test_cut_at_every_place(self):
        cells, ends = cells_of(NOTES), ends_of(NOTES)
        for cut in range(len(cells) + 1):
            whole = len([end for end in ends if end <= cut]) - 1
            self.assertEqual(read_journal(cells[:cut]), NOTES[:whole])

    def test_cut_and_gone_on_otherwise(self):
        cells, ends = cells_of(NOTES), ends_of(NOTES)
        for cut in range(len(cells)):
            whole = len([end for end in ends if end <= cut]) - 1
            for more in ([-1], [1000, 0, 60], [10 ** 5000] * 4, [-5] * 50):
                self.assertEqual(read_journal(cells[:cut] + more), NOTES[:whole])

    def test_one_cell_put_otherwise_at_every_place(self):
        cells, ends = cells_of(NOTES), ends_of(NOTES)
        for at, cell in enumerate(cells):
            whole = len([end for end in ends if end <= at]) - 1
            others = [cell + by for by in (1, -1, 2, -2, 7, 40, -40, 60, 900, -900, 997, -997, 2 * 997, 10 ** 6)]
            others += [10 ** 5000, -10 ** 5000, -1, 37, 256 + cell, 0, 32, 126, 127, 60, 41]
            for other in others:
                if other != cell:
                    self.assertEqual(read_journal(cells[:at] + [other] + cells[at + 1:]), NOTES[:whole], (at, other))

    def test_every_small_change_of_one_cell(self):
        notes = ["ab", "", "z~ "]
        cells, ends = cells_of(notes), ends_of(notes)
        for at, cell in enumerate(cells):
            whole = len([end for end in ends if end <= at]) - 1
            for other in range(-1100, 1100):
                if other != cell:
                    self.assertEqual(read_journal(cells[:at] + [other] + cells[at + 1:]), notes[:whole])

    def test_a_cell_left_out_or_doubled(self):
        notes = ["ab", "cdcd", "", "zz"]
        cells, ends = cells_of(notes), ends_of(notes)
        for at in range(len(cells)):
            whole = len([end for end in ends if end <= at]) - 1
            told = read_journal(cells[:at] + cells[at + 1:])
            self.assertEqual(told[:whole], notes[:whole])
            self.assertEqual(cells_of(told), (cells[:at] + cells[at + 1:])[:len(cells_of(told))])

    def test_signs_that_no_note_has(self):
        for number in (37, 10, 9, 31, 127, 0, -1, 200):
            cells = [0, 1, 59, number]
            cells.append(sum(place * cell for place, cell in enumerate(cells, 1)) % 997)
            self.assertEqual(read_journal(record(0, "ahead") + [1] + cells[1:4] + [(cells[4] + 1) % 997]), ["ahead"])
            self.assertEqual(read_journal(cells), [])

    def test_lengths_that_no_note_has(self):
        for many in (41, 42, 60, -1):
            cells = [0, many, 60 - many] + [65] * max(0, many)
            cells.append(sum(place * cell for place, cell in enumerate(cells, 1)) % 997)
            self.assertEqual(read_journal(cells + cells), [])

    def test_numbers_in_their_order(self):
        self.assertEqual(read_journal(record(1, "a")), [])
        self.assertEqual(read_journal(record(0, "a") + record(0, "b")), ["a"])
        self.assertEqual(read_journal(record(0, "a") + record(2, "b")), ["a"])
        self.assertEqual(read_journal(record(0, "a") + record(901, "b")), ["a", "b"])

    def test_numbers_go_round(self):
        notes = [""] * 750
        self.assertEqual(len(cells_of(notes)), 3000)
        self.assertEqual(read_journal(cells_of(notes)), notes)
        many = [f"{number}" for number in range(1802)]
        self.assertEqual(read_journal(cells_of(many)), many)

    def test_what_is_behind_the_end(self):
        cells = cells_of(NOTES)
        for more in ([0], [0] * 40, [len(NOTES)], record(0, "x"), [-5] * 100, [10 ** 5000], list(range(500)),
                     record(len(NOTES), "x")[:-1], record(len(NOTES), "x")[:-1] + [996]):
            self.assertEqual(read_journal(cells + more), NOTES)
        self.assertEqual(read_journal(cells + record(len(NOTES), "x") + [0, 1]), NOTES + ["x"])

    def test_cells_that_are_no_journal(self):
        for cells in ([0], [0, 0], [0, 0, 60], [0] * 3000, [10 ** 5000] * 3000, [-1] * 3000, list(range(3000)),
                      [0, 10 ** 5000, 60 - 10 ** 5000, 5]):
            self.assertEqual(read_journal(cells), [])

    def test_what_is_handed_in_is_not_changed(self):
        cells = cells_of(NOTES) + [5]
        kept = list(cells)
        told = read_journal(cells)
        told.clear()
        self.assertEqual(cells, kept)
        self.assertEqual(read_journal(cells), NOTES)


class Journals(unittest.TestCase):
    def test_from_nothing(self):
        journal = Journal([])
        self.assertEqual((journal.notes(), journal.cells()), ([], []))
        for number, note in enumerate(NOTES):
            self.assertEqual(journal.write(note), number)
            self.assertEqual(journal.notes(), NOTES[:number + 1])
            self.assertEqual(journal.cells(), cells_of(NOTES[:number + 1]))

    def test_gone_on_behind_cut_cells(self):
        cells, ends = cells_of(NOTES), ends_of(NOTES)
        for cut in range(len(cells) + 1):
            whole = len([end for end in ends if end <= cut]) - 1
            journal = Journal(cells[:cut])
            self.assertEqual(journal.notes(), NOTES[:whole])
            self.assertEqual(journal.cells(), cells[:ends[whole]])
            self.assertEqual(journal.write("on"), whole)
            self.assertEqual(journal.write(""), whole + 1)
            self.assertEqual(journal.notes(), NOTES[:whole] + ["on", ""])
            self.assertEqual(journal.cells(), cells_of(NOTES[:whole] + ["on", ""]))
            self.assertEqual(read_journal(journal.cells()), journal.notes())

    def test_what_is_behind_is_left_out(self):
        journal = Journal(cells_of(["a"]) + [1, 1, 59, 98, 0] + record(2, "c"))
        self.assertEqual((journal.notes(), journal.cells()), (["a"], cells_of(["a"])))
        self.assertEqual(journal.write("b"), 1)
        self.assertEqual(journal.cells(), cells_of(["a", "b"]))

    def test_numbers_beyond_nine_hundred(self):
        journal = Journal([])
        self.assertEqual([journal.write("") for _ in range(1000)], list(range(1000)))
        self.assertEqual(journal.cells()[900 * 4:900 * 4 + 4], [0, 0, 60, 180])
        self.assertEqual(read_journal(journal.cells()), [""] * 1000)

    def test_refusals_change_nothing(self):
        journal = Journal(cells_of(["a"]))
        for thing in NO_NOTES + ODD_THINGS:
            if isinstance(thing, str) and thing in ("", "1", "seeker"):
                continue
            with self.assertRaises(HouseError) as caught:
                journal.write(thing)
            self.assertIs(caught.exception.__class__, NoText)
            self.assertEqual((journal.notes(), journal.cells()), (["a"], cells_of(["a"])))
        self.assertEqual(journal.write("b"), 1)

    def test_own_things(self):
        cells = cells_of(["a", "b"])
        one, other = Journal(cells), Journal(cells)
        cells.clear()
        self.assertEqual(one.notes(), ["a", "b"])
        one.write("c")
        notes, told = one.notes(), one.cells()
        one.write("d")
        self.assertEqual((notes, told), (["a", "b", "c"], cells_of(["a", "b", "c"])))
        notes.clear()
        told.append(5)
        self.assertEqual((one.notes(), one.cells()), (["a", "b", "c", "d"], cells_of(["a", "b", "c", "d"])))
        self.assertEqual((other.notes(), other.cells()), (["a", "b"], cells_of(["a", "b"])))

    def test_seeded_cuts_and_goings_on(self):
        signs = [chr(number) for number in range(32, 127) if number != 37]
        for seed in range(60):
            dice = random.Random(seed)
            journal, notes = Journal([]), []
            for _ in range(6):
                for _ in range(dice.randint(0, 6)):
                    notes.append("".join(dice.choices(signs, k=dice.choice((0, 1, 5, 39, 40)))))
                    self.assertEqual(journal.write(notes[-1]), len(notes) - 1)
                cells = journal.cells()
                self.assertEqual(cells, cells_of(notes))
                cut = dice.randint(0, len(cells))
                journal = Journal(cells[:cut])
                notes = notes[:len([end for end in ends_of(notes) if end <= cut]) - 1]
                self.assertEqual(journal.notes(), notes)


if __name__ == "__main__":
    unittest.main()
