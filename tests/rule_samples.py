"""Conditions, rules and histories that several tests hand in."""

import random

from samples import ORDINARY

OF = ("of", 1, "hall")
KEY = ("key", 3)
HOURS = ("hours", 22, 6)
TERM = ("term", "fire")
KEYS = tuple(("key", n) for n in range(10))

EACH_KIND = (
    OF, KEY, HOURS, TERM, ("not", KEY), ("and", KEY, OF), ("or", HOURS, KEY), ("then", OF, KEY, 5),
)

# Let by of ORDINARY: its bells are 3, 7, 8, its door 4, its zones hall (1, 2) and cellar (5, 6, 20).
RULES = (
    ("sound", 8, ("term", "any")),
    ("term", "any", ("or", ("term", "fire"), ("key", 0))),
    ("term", "fire", ("or", ("of", 1, "hall"), ("of", 2, "cellar"))),
    ("sound", 3, ("then", ("of", 1, "hall"), ("of", 1, "cellar"), 2)),
    ("sound", 7, ("and", ("term", "any"), ("not", ("hours", 8, 17)))),
    ("sound", 4, ("not", ("term", "any"))),
    ("term", "idle", ("then", ("term", "fire"), ("key", 9), 20)),
)


def tall(deep, leaf=KEY):
    """So many conditions within one another, the leaf one of them."""
    for _ in range(deep - 1):
        leaf = ("not", leaf)
    return leaf


def wide(many):
    """So many conditions in all, five or fewer within one another."""
    row = [KEY] * ((many + 1) // 2)
    while len(row) > 1:
        row = [("or", row[at], row[at + 1]) for at in range(0, len(row) - 1, 2)] + row[len(row) // 2 * 2:]
    return row[0] if many % 2 else ("not", row[0])


def depth_of(condition):
    return 1 + max([0] + [depth_of(part) for part in condition if isinstance(part, tuple)])


def count_of(condition):
    return 1 + sum(count_of(part) for part in condition if isinstance(part, tuple))


def random_condition(dice, zones, terms, deep=6, room=20):
    """A condition of at most so many within one another and so many in all."""
    if deep == 1 or room < 3 or dice.random() < 0.2:
        leaves = [("key", dice.randrange(10)), ("hours", dice.randrange(24), dice.randrange(24))]
        leaves += [("of", dice.choice((1, 1, 2, 3)), name) for name in zones]
        leaves += [("term", name) for name in terms] * 2
        return dice.choice(leaves)
    word = dice.choice(("not", "and", "or", "then", "then"))
    if word == "not":
        return (word, random_condition(dice, zones, terms, deep - 1, room - 1))
    one = random_condition(dice, zones, terms, deep - 1, (room - 1) // 2)
    other = random_condition(dice, zones, terms, deep - 1, (room - 1) // 2)
    return (word, one, other) + ((dice.choice((1, 2, 5, 20)),) if word == "then" else ())


def random_rules(seed, plan=ORDINARY):
    """Rules that are let by of this plan, the same for the same seed."""
    dice = random.Random(seed)
    places = [(place[0], place[1]) for loop in plan[1] for place in loop]
    spurs = [device for loop in plan[1] for place in loop for device in place[2]]
    bells = [address for kind, address in places + spurs if kind == "bell"]
    doors = [address for kind, address in places + spurs if kind == "door"]
    sounds = bells + [address for address in doors if dice.random() < 0.5]
    zones = [name for name, _ in plan[2]]
    names = ["a", "b", "fire", "term", "of", "not", "within", "zzzzzzzz"][:dice.randint(0, 8)]
    rows = []
    for at, name in enumerate(names[:16 - len(sounds)]):
        rows.append(("term", name, random_condition(dice, zones, names[:at])))
    known = [row[1] for row in rows]
    rows += [("sound", address, random_condition(dice, zones, known)) for address in sounds]
    if not rows:
        rows.append(("term", "alone", random_condition(dice, zones, [])))
    dice.shuffle(rows)
    return tuple(rows)


def random_history(dice, plan, many):
    addresses = sorted([address for _, zone in plan[2] for address in zone])
    history = []
    hour = dice.randrange(24)
    for _ in range(many):
        warned = tuple(address for address in addresses if dice.random() < 0.3)
        turned = tuple(key for key in range(10) if dice.random() < 0.2)
        history.append((warned, turned, hour))
        hour = (hour + dice.choice((0, 1, 7))) % 24
    return history


def holds_at(plan, rules, condition, history, at, known=None):
    """Whether the condition holds at beat `at`, straight by the words of point 18."""
    known = {} if known is None else known
    key = (condition, at)
    if key not in known:
        known[key] = reckon(plan, rules, condition, history, at, known)
    return known[key]


def reckon(plan, rules, condition, history, at, known):
    warned, turned, hour = history[at]
    word, *rest = condition
    if word == "of":
        zone = dict(plan[2])[rest[1]]
        return len(set(zone) & set(warned)) >= rest[0]
    if word == "key":
        return rest[0] in turned
    if word == "hours":
        step, hours = rest[0], []
        while not hours or step != rest[1]:
            hours.append(step)
            step = 0 if step == 23 else step + 1
        return hour in hours
    if word == "term":
        named = [row[2] for row in rules if row[:2] == condition]
        return holds_at(plan, rules, named[0], history, at, known)
    if word == "then":
        first, second, many = rest
        if not holds_at(plan, rules, second, history, at, known):
            return False
        ahead = [beat for beat in range(at) if at - beat <= many]
        return any([holds_at(plan, rules, first, history, beat, known) for beat in ahead])
    truths = [holds_at(plan, rules, part, history, at, known) for part in rest]
    return {"not": not truths[0], "and": all(truths), "or": any(truths)}[word]


def said(plan, rules, history):
    """What rules say at a history, by the reckoning above."""
    known = {}
    told = []
    for word, address, condition in rules:
        if word == "sound" and holds_at(plan, rules, condition, history, len(history) - 1, known):
            told.append(address)
    return tuple(sorted(told))
