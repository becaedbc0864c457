"""Finding: what is heard with faults, and which faults agree with what is heard."""

from warnloop.plans import stretches
from warnloop.wires import Wires

HOWS = ("cut", "short")


def lay_faults(wires, faults):
    """Does these faults to the wires, and brings all to rest."""
    for stretch, how in faults:
        if how == "cut":
            wires.cut(stretch)
        else:
            wires.short(stretch)
    wires.come_to_rest()


def heard_from_both(wires, loop):
    """The spots of the loop heard from end A, and those heard from end B."""
    return (tuple(wires.heard(loop, "A")), tuple(wires.heard(loop, "B")))


def heard_with(plan, loop, faults):
    """What is heard of the loop from end A and from end B with these faults, all at rest."""
    wires = Wires(plan)
    lay_faults(wires, faults)
    return heard_from_both(wires, loop)


def single_faults(plan, loop):
    """Each fault of the loop, rising."""
    return [(stretch, how) for stretch in stretches(plan) if stretch[0] == loop for how in HOWS]


def fault_sets(faults, most):
    """Each rising tuple of at most so many of these rising faults, of unlike stretches, in agreeing's order."""
    told = [()]
    level = [()]
    for many in range(most):
        level = [some + (fault,) for some in level for fault in faults if not some or some[-1][0] < fault[0]]
        told.extend(level)
    return told


def agreeing(plan, loop, from_a, from_b, most):
    """All sets of at most so many faults of the loop with which just these are heard."""
    wires = Wires(plan)
    told = []
    for some in fault_sets(single_faults(plan, loop), most):
        # The rest hangs on the faults alone, not on what was laid before: mended wires are as good as fresh ones.
        lay_faults(wires, some)
        if heard_from_both(wires, loop) == (from_a, from_b):
            told.append(some)
        for stretch, how in some:
            wires.mend(stretch)
    return told


def told_place(plan, loop, from_a, from_b):
    """In short, where a fault may be by which just these are heard."""
    agreed = agreeing(plan, loop, from_a, from_b, 1)
    if () in agreed:
        return ("whole",)
    if agreed:
        return ("some", [some[0] for some in agreed])
    return ("more",)
