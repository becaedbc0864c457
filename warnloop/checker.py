"""The checker: takes claims whose papers show that they are so."""

from warnloop.errors import NoLog
from warnloop.panels import is_log, joined
from warnloop.plans import OPENER, devices, is_let_by, openers, stretches
from warnloop.rules import is_history
from warnloop.tables import Runner, is_table
from warnloop.things import are_rising_within, are_wholes, is_rising, is_row, is_within
from warnloop.wires import all_rest

HOWS = ("cut", "short")
ENDS = ("A", "B")


def is_fault(thing, hows):
    """Whether the thing is a fault of one of these stretches."""
    return is_row(thing, 2, 2) and are_wholes(thing[0], 3) and thing[0] in hows and thing[1] in HOWS


def are_faults(thing, hows):
    """Whether the thing is a rising tuple of faults of unlike ones of these stretches."""
    if not isinstance(thing, tuple) or not all([is_fault(part, hows) for part in thing]):
        return False
    return is_rising([stretch for stretch, how in thing])


def are_parted(thing, gaps):
    """Whether the thing is a rising tuple of these openers."""
    if not isinstance(thing, tuple) or not all([are_wholes(part, 2) and part in gaps for part in thing]):
        return False
    return is_rising(thing)


def resting(plan, faults, parted):
    """How each stretch is and which openers are parted, where these things may be told and all rests so; else None."""
    if not is_let_by(plan):
        return None
    hows = {stretch: "whole" for stretch in stretches(plan)}
    gaps = {opener: False for opener in openers(plan)}
    if not are_faults(faults, hows) or not are_parted(parted, gaps):
        return None
    for stretch, how in faults:
        hows[stretch] = how
    for opener in parted:
        gaps[opener] = True
    return (hows, gaps) if all_rest(hows, gaps) else None


def is_device_spot(plan, thing):
    """Whether the thing is a spot of a device of the plan."""
    return are_wholes(thing, 3) and thing in [spot for spot, kind, address in devices(plan)]


def are_spots(thing):
    """Whether the thing is a tuple of such tuples as spots are."""
    return isinstance(thing, tuple) and all([are_wholes(part, 3) for part in thing])


def rest_holds(parts, paper):
    """Whether no opener would change."""
    plan, faults, parted = parts
    return paper is None and resting(plan, faults, parted) is not None


def way_to(plan, end, spot):
    """The one way from the end to the place of the spot."""
    loop, at, number = spot
    behind = len(plan[1][loop]) + 2
    places = list(range(at + 1)) if end == "A" else list(range(at, behind))[::-1]
    return tuple([(loop, place, 0) for place in places])


def is_free(hows, gaps, way):
    """Whether the way passes no stretch that is cut and no opener that is parted."""
    passed = [min(here, there) for here, there in zip(way, way[1:])]
    if any([hows[stretch] == "cut" for stretch in passed]):
        return False
    return not any([gaps.get((loop, place), False) for loop, place, number in way])


def heard_holds(parts, paper):
    """Whether the paper is a way from the end to the device."""
    plan, faults, parted, end, spot = parts
    laid = resting(plan, faults, parted)
    if laid is None or end not in ENDS or not is_device_spot(plan, spot):
        return False
    if not are_spots(paper) or paper != way_to(plan, end, spot):
        return False
    hows, gaps = laid
    loop, at, number = spot
    spur = [hows[(loop, at, piece)] for piece in range(1, number + 1)]
    return is_free(hows, gaps, paper) and "cut" not in spur


def next_to(plan, spot):
    """What is next to a device or an opener of a loop, each as (the stretch between, its spot)."""
    loop, at, number = spot
    told = [((loop, at, number), (loop, at, number - 1))]
    if number == 0:
        told = [((loop, at - 1, 0), (loop, at - 1, 0)), ((loop, at, 0), (loop, at + 1, 0))]
    if number < len(plan[1][loop][at - 1][2]):
        told.append(((loop, at, number + 1), (loop, at, number + 1)))
    return told


def fence_spots(plan, gaps, loop):
    """The spots of the loop that a fence may hold: its devices, and its closed openers that are no end's."""
    told = {spot: True for spot, kind, address in devices(plan) if spot[0] == loop}
    for at, place in enumerate(plan[1][loop], start=1):
        if place == OPENER and not gaps[(loop, at)]:
            told[(loop, at, 0)] = True
    return told


def still_holds(parts, paper):
    """Whether the paper is a fence round the device."""
    plan, faults, parted, spot = parts
    laid = resting(plan, faults, parted)
    if laid is None or not is_device_spot(plan, spot) or not are_spots(paper):
        return False
    hows, gaps = laid
    fair = fence_spots(plan, gaps, spot[0])
    if not all([part in fair for part in paper]) or not is_rising(paper) or spot not in paper:
        return False
    around = [pair for part in paper for pair in next_to(plan, part) if pair[1] not in paper]
    # A place that is no opener is parted nowhere, nor is a spur's.
    return all([hows[stretch] == "cut" or gaps.get(other[:2], False) for stretch, other in around])


def is_heavy_span(thing, weights, most):
    """Whether the thing is a span of these weights that weighs more than most."""
    if not is_row(thing, 2, 2) or not is_within(thing[0], 0, len(weights) - 1):
        return False
    first, last = thing
    return is_within(last, first + 1, len(weights) - 1) and sum(weights[first:last + 1]) > most


def are_weights(thing):
    """Whether the thing is a tuple of weights."""
    return is_row(thing, 1, 30) and all([is_within(part, 0, 9) for part in thing])


def fewest_holds(parts, paper):
    """Whether the openers keep the bound, and the paper is spans that need as many."""
    weights, most, placed = parts
    if not are_weights(weights) or not is_within(most, 1, 99):
        return False
    many = len(weights)
    if not are_rising_within(placed, 0, many - 1, 1, many - 1):
        return False
    edges = (0,) + placed + (many,)
    if any([sum(weights[begin:end]) > most for begin, end in zip(edges, edges[1:])]):
        return False
    if not is_row(paper, len(placed), len(placed)):
        return False
    if not all([is_heavy_span(part, weights, most) for part in paper]):
        return False
    return all([one[1] <= other[0] for one, other in zip(paper, paper[1:])])


def joined_holds(parts, paper):
    """Whether the log is the one joined with the other."""
    one, other, log = parts
    if paper is not None or not is_log(one) or not is_log(other) or not is_log(log):
        return False
    try:
        return joined(one, other) == log
    except NoLog:
        return False


def says_holds(parts, paper):
    """Whether the table tells the addresses at the last beat of its run over the history."""
    table, history, addresses = parts
    if paper is not None or not is_table(table) or not is_history(history):
        return False
    if not isinstance(addresses, tuple) or not are_wholes(addresses, len(addresses)):
        return False
    runner = Runner(table)
    told = [runner.beat(warned, turned, hour) for warned, turned, hour in history]
    return addresses == told[-1]


CHECKS = {
    "rest": rest_holds,
    "heard": heard_holds,
    "still": still_holds,
    "fewest": fewest_holds,
    "joined": joined_holds,
    "says": says_holds,
}
MANY_PARTS = {"rest": 3, "heard": 5, "still": 4, "fewest": 3, "joined": 3, "says": 3}


def holds(claim, paper):
    """Whether the claim is one that may be told, and the paper shows that it is so."""
    if not is_row(claim, 1, 6) or not isinstance(claim[0], str) or claim[0] not in CHECKS:
        return False
    if len(claim) - 1 != MANY_PARTS[claim[0]]:
        return False
    check = CHECKS[claim[0]]
    return check(claim[1:], paper)
