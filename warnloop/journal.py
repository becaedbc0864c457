"""The journal: notes as records of cells, which power may cut anywhere."""

from warnloop.errors import NoText
from warnloop.things import SIGNS, is_line

MOST_SIGNS = 40
NUMBERS = 900
LENGTHS = 60
CHECKS = 997
CELLS_AHEAD = 3
CELLS_AROUND = 4


def check_note(note):
    """Refuses what is no note."""
    if not is_line(note, 0, MOST_SIGNS):
        raise NoText("a note is a text of at most forty signs")


def record(number, note):
    """The cells of the note of this number."""
    check_note(note)
    cells = [number % NUMBERS, len(note), LENGTHS - len(note)] + [ord(sign) for sign in note]
    return cells + [sum([cell * place for place, cell in enumerate(cells, start=1)]) % CHECKS]


def note_at(cells, at, signs):
    """The text that stands there if a record begins there, or None; signs tells each by its number."""
    if at + 1 >= len(cells) or not 0 <= cells[at + 1] <= MOST_SIGNS:
        return None
    begin = at + CELLS_AHEAD
    found = [signs.get(cell) for cell in cells[begin:begin + cells[at + 1]]]
    return None if None in found else "".join(found)


def read_journal(cells):
    """The notes, from the first on, whose records stand in the cells one behind another."""
    signs = {ord(sign): sign for sign in SIGNS}
    told = []
    at = 0
    note = note_at(cells, at, signs)
    # The record made anew is compared whole, so that nothing in it can be otherwise.
    while note is not None and cells[at:at + len(note) + CELLS_AROUND] == record(len(told), note):
        told.append(note)
        at += len(note) + CELLS_AROUND
        note = note_at(cells, at, signs)
    return told


class Journal:
    """A journal that begins with what is read from cells."""

    def __init__(self, cells):
        self.kept = read_journal(cells)

    def write(self, note):
        """Writes the note behind the others; its number."""
        check_note(note)
        self.kept.append(note)
        return len(self.kept) - 1

    def notes(self):
        """The notes, from the first on."""
        return list(self.kept)

    def cells(self):
        """The records of the notes, one behind another."""
        return [cell for number, note in enumerate(self.kept) for cell in record(number, note)]
