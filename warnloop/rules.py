"""Rules: conditions, what is wrong with rules by a plan, and what they say at a history."""

from warnloop.errors import NoRules
from warnloop.plans import devices, is_let_by
from warnloop.things import are_rising_within, is_name, is_row, is_within

MOST_DEEP = 6
MOST_CONDITIONS = 20
MOST_BEATS = 60
SOUNDING_KINDS = ("bell", "door")


def is_plain(thing):
    """Whether the thing is a condition of keys or of hours, which a table has just so, too."""
    if is_row(thing, 2, 2):
        return thing[0] == "key" and is_within(thing[1], 0, 9)
    if is_row(thing, 3, 3):
        return thing[0] == "hours" and is_within(thing[1], 0, 23) and is_within(thing[2], 0, 23)
    return False


def is_form(thing):
    """Whether the thing has the form of a condition, whatever may stand for conditions within it."""
    if not is_row(thing, 2, 4):
        return False
    word = thing[0]
    if word == "of":
        return len(thing) == 3 and is_within(thing[1], 1, 9) and is_name(thing[2])
    if word == "term":
        return len(thing) == 2 and is_name(thing[1])
    if word == "not":
        return len(thing) == 2
    if word in ("and", "or"):
        return len(thing) == 3
    if word == "then":
        return len(thing) == 4 and is_within(thing[3], 1, 20)
    return is_plain(thing)


def inner_ones(condition):
    """The conditions straight within this one, as they are written."""
    if condition[0] == "not":
        return condition[1:2]
    if condition[0] in ("and", "or", "then"):
        return condition[1:3]
    return ()


def is_condition(thing):
    """Whether the thing is a condition."""
    level = [thing]
    many = 0
    # Level by level, so that what is built too deep is not gone down into.
    for deep in range(MOST_DEEP):
        if not all([is_form(part) for part in level]):
            return False
        many += len(level)
        level = [inner for part in level for inner in inner_ones(part)]
    return not level and many <= MOST_CONDITIONS


def is_rule(thing):
    """Whether the thing is a row of rules."""
    if not is_row(thing, 3, 3) or not is_condition(thing[2]):
        return False
    if thing[0] == "term":
        return is_name(thing[1])
    return thing[0] == "sound" and is_within(thing[1], 1, 99)


def is_rules(thing):
    """Whether the thing is rules, let by or not."""
    return is_row(thing, 1, 16) and all([is_rule(part) for part in thing])


def leaves(condition):
    """The conditions in this one that hold no other, as they are written."""
    inner = inner_ones(condition)
    if not inner:
        return [condition]
    return [leaf for part in inner for leaf in leaves(part)]


def names_in(condition, word):
    """The names of zones (word "of") or of terms (word "term") in the condition, as they are written."""
    return [leaf[-1] for leaf in leaves(condition) if leaf[0] == word]


def terms_of(rules):
    """The condition of each term, by its name."""
    return {name: condition for word, name, condition in rules if word == "term"}


def terms_in_order(terms):
    """The names of the terms, each behind all that its condition names; those that lead into a ring are left out."""
    known = {}
    for step in range(len(terms)):
        for name, condition in terms.items():
            if all([other in known for other in names_in(condition, "term")]):
                known[name] = True
    return list(known)


def row_twice(rules):
    """The first row whose name or address a row of its kind ahead has, or None."""
    seen = {}
    for at, (word, call, condition) in enumerate(rules):
        if (word, call) in seen:
            return ("twice", at)
        seen[(word, call)] = True
    return None


def name_missing(rules, word, told, known):
    """The first row's first name of a zone or a term that is not known, or None."""
    for at, row in enumerate(rules):
        for name in names_in(row[2], word):
            if name not in known:
                return (told, at, name)
    return None


def row_without_bell(plan, rules):
    """The first row of "sound" whose address is no bell's and no door's, or None."""
    sounding = {address: True for spot, kind, address in devices(plan) if kind in SOUNDING_KINDS}
    for at, (word, call, condition) in enumerate(rules):
        if word == "sound" and call not in sounding:
            return ("bell", at)
    return None


def terms_ring(rules):
    """Terms each of whose conditions names the next one, the last one's the first, or None."""
    terms = terms_of(rules)
    free = terms_in_order(terms)
    stuck = [name for name in terms if name not in free]
    if not stuck:
        return None
    # Each that is stuck names one that is stuck, so the way must come back on itself.
    way = []
    name = stuck[0]
    while name not in way:
        way.append(name)
        name = [other for other in names_in(terms[name], "term") if other in stuck][0]
    return ("ring", tuple(way[way.index(name):]))


def bell_still(plan, rules):
    """The first bell that no row of "sound" has, or None."""
    sounded = {call: True for word, call, condition in rules if word == "sound"}
    for spot, kind, address in devices(plan):
        if kind == "bell" and address not in sounded:
            return ("still", address)
    return None


def rules_wrong(plan, rules):
    """The first thing that is wrong with the rules by this plan, or None."""
    zones = {name: True for name, addresses in plan[2]}
    return (
        row_twice(rules)
        or name_missing(rules, "of", "zone", zones)
        or name_missing(rules, "term", "term", terms_of(rules))
        or row_without_bell(plan, rules)
        or terms_ring(rules)
        or bell_still(plan, rules)
    )


def rules_let_by(plan, rules):
    """Whether these things are a plan that is let by and rules with nothing wrong by it."""
    return is_let_by(plan) and is_rules(rules) and rules_wrong(plan, rules) is None


def check_rules(plan, rules):
    """Refuses what is not let by."""
    if not rules_let_by(plan, rules):
        raise NoRules("no rules that are let by, by a plan that is let by")


def is_brought(thing):
    """Whether the thing is what a beat may bring: who is warned, which keys are turned, and the hour."""
    if not is_row(thing, 3, 3):
        return False
    warned, turned, hour = thing
    return are_rising_within(warned, 0, 30, 1, 99) and are_rising_within(turned, 0, 10, 0, 9) and is_within(hour, 0, 23)


def is_history(thing):
    """Whether the thing is a history."""
    return isinstance(thing, list) and 1 <= len(thing) <= MOST_BEATS and all([is_brought(part) for part in thing])


def are_warned(many, addresses, warned):
    """Whether at least so many of the addresses are warned."""
    return len([address for address in addresses if address in warned]) >= many


def plain_holds(condition, turned, hour):
    """Whether a condition of keys or of hours holds."""
    if condition[0] == "key":
        return condition[1] in turned
    word, begin, end = condition
    return begin == end or (hour - begin) % 24 < (end - begin) % 24


def leaf_holds(condition, zones, brought):
    """Whether a condition that holds no other, and is no term, holds at a beat that brings this."""
    warned, turned, hour = brought
    if condition[0] == "of":
        return are_warned(condition[1], zones[condition[2]], warned)
    return plain_holds(condition, turned, hour)


def then_holds(earlier, later, many):
    """At each beat, whether the later one holds and the earlier one held at one of so many beats ahead."""
    return [now and any(earlier[max(0, at - many):at]) for at, now in enumerate(later)]


def holds_at_beats(condition, zones, known, history):
    """At each beat of the history, whether the condition holds; known tells it of terms."""
    word = condition[0]
    if word == "term":
        return known[condition[1]]
    inner = [holds_at_beats(part, zones, known, history) for part in inner_ones(condition)]
    if word == "not":
        return [not truth for truth in inner[0]]
    if word == "and":
        return [one and other for one, other in zip(inner[0], inner[1])]
    if word == "or":
        return [one or other for one, other in zip(inner[0], inner[1])]
    if word == "then":
        return then_holds(inner[0], inner[1], condition[3])
    return [leaf_holds(condition, zones, brought) for brought in history]


def says(plan, rules, history):
    """The addresses, rising, that the rules say at the history."""
    check_rules(plan, rules)
    zones = {name: addresses for name, addresses in plan[2]}
    terms = terms_of(rules)
    known = {}
    # Terms that others name come first, so that each is reckoned once and not gone down into.
    for name in terms_in_order(terms):
        known[name] = holds_at_beats(terms[name], zones, known, history)
    sounds = {call: condition for word, call, condition in rules if word == "sound"}
    return tuple([call for call in sorted(sounds) if holds_at_beats(sounds[call], zones, known, history)[-1]])
