"""Plans: what is one, what is on its wires, and what is wrong with it."""

from warnloop.things import are_rising_within, is_name, is_row, is_within

KINDS = ("seeker", "knob", "bell", "door")
WARNING_KINDS = ("seeker", "knob")
OPENER = ("opener", 0, ())


def is_device(kind, address):
    """Whether a device may be told by this kind and this address."""
    return kind in KINDS and is_within(address, 1, 99)


def is_spur_device(thing):
    """Whether the thing is a device as a spur has it."""
    return is_row(thing, 2, 2) and is_device(thing[0], thing[1])


def is_spur(thing):
    """Whether the thing is a spur, perhaps of no device."""
    return is_row(thing, 0, 3) and all([is_spur_device(part) for part in thing])


def is_place(thing):
    """Whether the thing is a place of a loop."""
    if not is_row(thing, 3, 3):
        return False
    kind, address, spur = thing
    if kind == "opener":
        return is_within(address, 0, 0) and is_row(spur, 0, 0)
    return is_device(kind, address) and is_spur(spur)


def is_loop(thing):
    """Whether the thing is a loop."""
    return is_row(thing, 1, 12) and all([is_place(part) for part in thing])


def is_zone(thing):
    """Whether the thing is a zone."""
    return is_row(thing, 2, 2) and is_name(thing[0]) and are_rising_within(thing[1], 1, 30, 1, 99)


def are_loops(thing):
    """Whether the thing is a plan's loops."""
    return is_row(thing, 1, 3) and all([is_loop(part) for part in thing])


def are_zones(thing):
    """Whether the thing is a plan's zones, of unlike names."""
    if not is_row(thing, 0, 8) or not all([is_zone(part) for part in thing]):
        return False
    return len({name: True for name, addresses in thing}) == len(thing)


def is_plan(thing):
    """Whether the thing is a plan, let by or not."""
    if not is_row(thing, 3, 3):
        return False
    most, loops, zones = thing
    if not is_within(most, 1, 30) or not are_loops(loops) or not are_zones(zones):
        return False
    return 1 <= len(devices(thing)) <= 30


def place_devices(loop, at, place):
    """The devices of one place and its spur, as devices tells them."""
    kind, address, spur = place
    if kind == "opener":
        return []
    told = [((loop, at, 0), kind, address)]
    for number, (spur_kind, spur_address) in enumerate(spur, start=1):
        told.append(((loop, at, number), spur_kind, spur_address))
    return told


def devices(plan):
    """Each device as (spot, kind, address), in order of spots."""
    told = []
    for loop, places in enumerate(plan[1]):
        for at, place in enumerate(places, start=1):
            told.extend(place_devices(loop, at, place))
    return told


def stretches(plan):
    """Each stretch of the plan, sorted."""
    told = []
    for loop, places in enumerate(plan[1]):
        told.append((loop, 0, 0))
        for at, (kind, address, spur) in enumerate(places, start=1):
            told.extend([(loop, at, number) for number in range(len(spur) + 1)])
    return told


def openers(plan):
    """Each opener of the plan, ends' own too, sorted."""
    told = []
    for loop, places in enumerate(plan[1]):
        told.append((loop, 0))
        told.extend([(loop, at) for at, place in enumerate(places, start=1) if place == OPENER])
        told.append((loop, len(places) + 1))
    return told


def parts(plan, loop):
    """The spots of the devices between openers next to one another, part by part from end A on."""
    told = [[]]
    for at, place in enumerate(plan[1][loop], start=1):
        if place == OPENER:
            told.append([])
        else:
            told[-1].extend([spot for spot, kind, address in place_devices(loop, at, place)])
    return told


def address_twice(plan):
    """The first device whose address one ahead of it has, or None."""
    seen = {}
    for spot, kind, address in devices(plan):
        if address in seen:
            return ("twice", address)
        seen[address] = True
    return None


def part_crowded(plan):
    """The first part that has more devices than most, or None."""
    for loop in range(len(plan[1])):
        for number, spots in enumerate(parts(plan, loop)):
            if len(spots) > plan[0]:
                return ("crowded", loop, number)
    return None


def address_stranger(plan):
    """The first zone's first address that is no seeker's and no knob's, or None."""
    warners = {address: True for spot, kind, address in devices(plan) if kind in WARNING_KINDS}
    for name, addresses in plan[2]:
        for address in addresses:
            if address not in warners:
                return ("stranger", name, address)
    return None


def address_shared(plan):
    """The first zone's first address that a zone ahead has, or None."""
    seen = {}
    for name, addresses in plan[2]:
        for address in addresses:
            if address in seen:
                return ("shared", name, address)
            seen[address] = True
    return None


def wrong(plan):
    """The first thing that is wrong with the plan, or None."""
    return address_twice(plan) or part_crowded(plan) or address_stranger(plan) or address_shared(plan)


def is_let_by(thing):
    """Whether the thing is a plan with nothing wrong."""
    return is_plan(thing) and wrong(thing) is None
