"""Plans and things that several tests hand in."""

import random

KINDS = ("seeker", "knob", "bell", "door")
OPENER = ("opener", 0, ())


def seeker(address, *spur):
    return ("seeker", address, tuple(spur))


def plan_of(*loops, most=30, zones=()):
    return (most, tuple(tuple(loop) for loop in loops), tuple(zones))


SMALLEST = plan_of([seeker(1)])

# Two loops, spurs of one and of three, openers in the midst, two zones.
ORDINARY = (
    4,
    (
        (
            ("seeker", 1, ()),
            ("knob", 2, (("bell", 3),)),
            OPENER,
            ("door", 4, (("seeker", 5), ("seeker", 6), ("bell", 7))),
            OPENER,
            ("bell", 8, ()),
        ),
        (OPENER, ("seeker", 20, ()), OPENER, OPENER, ("knob", 10, ()), OPENER),
    ),
    (("hall", (1, 2)), ("cellar", (5, 6, 20))),
)

# Twelve places, three loops, thirty devices, eight zones: the greatest of most bounds at once.
GREATEST = plan_of(
    [seeker(n) for n in range(1, 13)],
    [OPENER] * 11 + [("knob", 99, (("bell", 98), ("door", 97), ("seeker", 96)))],
    [seeker(50 + n, ("seeker", 60 + n)) for n in range(7)],
    zones=[("z" * n, (n,)) for n in range(1, 9)],
)

NO_NUMBERS = [
    None, True, False, "", "1", "seeker", (), [], (1,), [1], ((1,),), -1, 10 ** 40, -(10 ** 40), "1\n", "\t",
]


def nested(deep, inner=1):
    for _ in range(deep):
        inner = (inner,)
    return inner


ODD_THINGS = NO_NUMBERS + [
    0, 1, 2, nested(12), [nested(11)], (None, None, None), (1, (), ()), [[], ()], "most 1\nloop\nseeker 1\n",
    tuple(range(3000)), list(range(3000)), (1, 2), [1, 2, 3], ("opener", 0, ()), ("seeker", 1, ()),
]

# What is no plan, and plans that are not let by, each for another reason.
NO_PLANS = ODD_THINGS + [
    plan_of([seeker(1), seeker(1)]), plan_of([seeker(1), seeker(2)], most=1), plan_of([seeker(1)], zones=[("a", (9,))]),
    plan_of([seeker(1)], zones=[("a", (1,)), ("b", (1,))]), list(SMALLEST), (SMALLEST,), plan_of([seeker(True)]),
    plan_of([OPENER]), SMALLEST[:2],
]


def with_part(thing, path, part):
    """The nested tuple with the part at this path put otherwise."""
    if not path:
        return part
    at = path[0]
    return thing[:at] + (with_part(thing[at], path[1:], part),) + thing[at + 1:]


def part_at(thing, path):
    for at in path:
        thing = thing[at]
    return thing


def paths_of(thing, ahead=()):
    """Each path to a part of the nested tuple, its own, empty one first."""
    found = [ahead]
    if isinstance(thing, tuple):
        for at, part in enumerate(thing):
            found.extend(paths_of(part, ahead + (at,)))
    return found


def random_place(dice, addresses, openers):
    if dice.random() < openers:
        return OPENER
    spur = tuple(
        (dice.choice(KINDS), addresses.pop()) for _ in range(dice.choice((0, 0, 1, 2, 3))) if len(addresses) > 1
    )
    return (dice.choice(KINDS), addresses.pop(), spur)


def random_plan(seed, loops=3, places=12, openers=0.3):
    """A plan that is let by, the same for the same seed."""
    dice = random.Random(seed)
    while True:
        addresses = dice.sample(range(1, 100), 30)
        told = []
        for _ in range(dice.randint(1, loops)):
            row = []
            for _ in range(dice.randint(1, places)):
                row.append(random_place(dice, addresses, openers) if addresses else OPENER)
            told.append(tuple(row))
        if len(addresses) < 30:
            return (30, tuple(told), random_zones(dice, told))


def random_zones(dice, loops):
    warners = []
    for place in [place for loop in loops for place in loop]:
        for kind, address in ((place[0], place[1]),) + place[2]:
            if kind in ("seeker", "knob"):
                warners.append(address)
    dice.shuffle(warners)
    names = dice.sample(["a", "hall", "cellar", "loop", "zone", "opener", "zzzzzzzz", "most"], dice.randint(0, 8))
    told = []
    for name in names:
        many = dice.randint(1, 4)
        if len(warners) >= many:
            told.append((name, tuple(sorted(warners[:many]))))
            del warners[:many]
    return tuple(told)
