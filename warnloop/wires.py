"""Wires: stretches cut and shorted, openers that part the wire, and what is heard."""

from warnloop.errors import NoOpener, NoPlan, NoSpot, NoStretch
from warnloop.plans import devices, is_let_by, openers, stretches
from warnloop.things import are_wholes


def spur_pieces(states, loop, at):
    """The pieces of this place's spur that are come to from the place, nearest first."""
    told = []
    number = 1
    # Behind the last piece there is none, and it ends the walk as a cut one does.
    while states.get((loop, at, number), "cut") != "cut":
        told.append((loop, at, number))
        number += 1
    return told


def come_to(states, gaps, opener, step):
    """The stretches and the places come to from one side of an opener: step 1 is end B's side, -1 end A's."""
    loop, at = opener
    wires = []
    places = []
    # Beyond an end there is no stretch, so an end's own opener has one side alone.
    while states.get((loop, min(at, at + step), 0), "cut") != "cut":
        wires.append((loop, min(at, at + step), 0))
        at += step
        pieces = spur_pieces(states, loop, at)
        wires.extend(pieces)
        places.append((loop, at, 0))
        # A piece bears the same numbers as the spot that it leads to.
        places.extend(pieces)
        if gaps.get((loop, at), False):
            break
    return wires, places


def has_short(states, wires):
    """Whether one of these stretches is short."""
    return any([states[stretch] == "short" for stretch in wires])


def comes_to_short(states, gaps, opener):
    """Whether a short stretch is come to from one of the opener's sides."""
    to_b, places_to_b = come_to(states, gaps, opener, 1)
    to_a, places_to_a = come_to(states, gaps, opener, -1)
    return has_short(states, to_b) or has_short(states, to_a)


def all_rest(states, gaps):
    """Whether no opener would change if it acted."""
    return all([comes_to_short(states, gaps, opener) == gap for opener, gap in gaps.items()])


class Wires:
    """The wires of a plan that is let by."""

    def __init__(self, plan):
        if not is_let_by(plan):
            raise NoPlan("wires are of a plan that is let by")
        self.plan = plan
        self.states = {stretch: "whole" for stretch in stretches(plan)}
        self.filled = {spot: (kind, address) for spot, kind, address in devices(plan)}
        self.gaps = {opener: False for opener in openers(plan)}

    def check_stretch(self, stretch):
        """Refuses what is no stretch of the plan."""
        if not are_wholes(stretch, 3) or stretch not in self.states:
            raise NoStretch("the plan has no such stretch")

    def check_spot(self, spot):
        """Refuses what is no spot of a device of the plan."""
        if not are_wholes(spot, 3) or spot not in self.filled:
            raise NoSpot("the plan has no device at such a spot")

    def cut(self, stretch):
        """The stretch is cut from now on."""
        self.check_stretch(stretch)
        self.states[stretch] = "cut"

    def short(self, stretch):
        """The stretch is short from now on."""
        self.check_stretch(stretch)
        self.states[stretch] = "short"

    def mend(self, stretch):
        """The stretch is whole from now on."""
        self.check_stretch(stretch)
        self.states[stretch] = "whole"

    def how(self, stretch):
        """How the stretch is: whole, cut or short."""
        self.check_stretch(stretch)
        return self.states[stretch]

    def take_out(self, spot):
        """No device is in the spot from now on."""
        self.check_spot(spot)
        self.filled[spot] = None

    def put_in(self, spot, kind, address):
        """This device is in the spot from now on."""
        self.check_spot(spot)
        self.filled[spot] = (kind, address)

    def there(self):
        """Each device there is as (spot, kind, address), in order of spots."""
        return [(spot, held[0], held[1]) for spot, held in self.filled.items() if held is not None]

    def parted(self):
        """The openers that are parted, rising."""
        return [opener for opener, gap in self.gaps.items() if gap]

    def act(self, opener):
        """The opener acts; whether it changed."""
        if not are_wholes(opener, 2) or opener not in self.gaps:
            raise NoOpener("the plan has no such opener")
        gap = comes_to_short(self.states, self.gaps, opener)
        changed = gap != self.gaps[opener]
        self.gaps[opener] = gap
        return changed

    def rests(self):
        """Whether no opener would change if it acted."""
        return all_rest(self.states, self.gaps)

    def come_to_rest(self):
        """Brings all to rest; the row of acts that did it."""
        # At rest just those are parted that come to a short ahead of any other opener: these part first, for past
        # them no other one comes to a short any more, and so none has to act twice.
        lone = {opener: True for opener in self.gaps}
        near = {opener: comes_to_short(self.states, lone, opener) for opener in self.gaps}
        row = [opener for opener, gap in self.gaps.items() if near[opener] and not gap]
        row.extend([opener for opener, gap in self.gaps.items() if gap and not near[opener]])
        for opener in row:
            self.act(opener)
        return row

    def heard(self, loop, end):
        """The spots, rising, of the devices that are heard from this end of the loop."""
        opener = (loop, 0) if end == "A" else (loop, len(self.plan[1][loop]) + 1)
        if self.gaps[opener]:
            return []
        wires, places = come_to(self.states, self.gaps, opener, 1 if end == "A" else -1)
        if has_short(self.states, wires):
            return []
        return sorted([spot for spot in places if self.filled.get(spot) is not None])
