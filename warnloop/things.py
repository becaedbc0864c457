"""What several modules ask of any thing that is handed in."""

SMALL_LETTERS = "abcdefghijklmnopqrstuvwxyz"
# Each sign from the blank to the last one, but the one that no text holds.
SIGNS = " !\"#$&'()*+,-./0123456789:;<=>?@ABCDEFGHIJKLMNOPQRSTUVWXYZ[\\]^_`abcdefghijklmnopqrstuvwxyz{|}~"


def is_whole(thing):
    """Whether the thing is a whole number; truths are none."""
    return isinstance(thing, int) and not isinstance(thing, bool)


def is_within(thing, low, high):
    """Whether the thing is a whole number from low to high."""
    return is_whole(thing) and low <= thing <= high


def is_row(thing, least, most):
    """Whether the thing is a tuple of least to most parts of any kind."""
    return isinstance(thing, tuple) and least <= len(thing) <= most


def are_wholes(thing, many):
    """Whether the thing is a tuple of so many whole numbers."""
    return is_row(thing, many, many) and all([is_whole(part) for part in thing])


def is_rising(row):
    """Whether each part of the row is greater than the one ahead of it."""
    return all([one < other for one, other in zip(row, row[1:])])


def are_rising_within(thing, least, most, low, high):
    """Whether the thing is a rising tuple of least to most whole numbers, each from low to high."""
    if not is_row(thing, least, most):
        return False
    return all([is_within(part, low, high) for part in thing]) and is_rising(thing)


def is_name(thing):
    """Whether the thing is a text of one to eight small letters."""
    if not isinstance(thing, str):
        return False
    return 1 <= len(thing) <= 8 and all([sign in SMALL_LETTERS for sign in thing])


def is_line(thing, least, most):
    """Whether the thing is a text of least to most signs, without a line end."""
    if not isinstance(thing, str) or not least <= len(thing) <= most:
        return False
    return all([sign in SIGNS for sign in thing])


def show_words(told):
    """The words and numbers of the tuple, in order, those of tuples within it too, a blank between."""
    words = []
    for part in told:
        words.extend(part if isinstance(part, tuple) else (part,))
    return " ".join([str(word) for word in words])
