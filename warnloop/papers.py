"""Papers: of each device a claim whether it is heard, with a paper that the checker takes."""

from warnloop.checker import fence_spots, next_to, way_to
from warnloop.finding import lay_faults
from warnloop.wires import Wires


def fence_round(wires, spot):
    """All that hangs together with the spot over stretches that are not cut, up to openers that are parted."""
    fair = fence_spots(wires.plan, wires.gaps, spot[0])
    fence = {spot: True}
    ahead = [spot]
    while ahead:
        here = ahead.pop()
        for stretch, other in next_to(wires.plan, here):
            if other in fair and other not in fence and wires.how(stretch) != "cut":
                fence[other] = True
                ahead.append(other)
    return tuple(sorted(fence))


def paper_of(plan, faults, spot):
    """A claim of the device in the spot, heard from an end or still, all being at rest with these faults; its paper."""
    wires = Wires(plan)
    lay_faults(wires, faults)
    parted = tuple(wires.parted())
    for end in ("A", "B"):
        if spot in wires.heard(spot[0], end):
            return (("heard", plan, faults, parted, end, spot), way_to(plan, end, spot))
    return (("still", plan, faults, parted, spot), fence_round(wires, spot))
