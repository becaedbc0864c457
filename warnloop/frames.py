"""Frames: what a device answers on the wire."""

from warnloop.things import are_wholes, is_within


def frame(address, turn, word):
    """The frame of these three numbers, its check behind them."""
    return (address, turn, word, (3 * address + 5 * turn + 7 * word) % 257)


def is_frame(thing):
    """Whether the thing is a frame, its check the one that fits."""
    if not are_wholes(thing, 4):
        return False
    address, turn, word, check = thing
    if not is_within(address, 1, 99) or not is_within(turn, 0, 7) or not is_within(word, 0, 255):
        return False
    return thing == frame(address, turn, word)
