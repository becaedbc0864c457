"""The house: wires, talk, seekers, rules, outs and a journal, beat by beat."""

from warnloop.errors import NoDeed, NoSpot, NoStretch
from warnloop.frames import frame
from warnloop.journal import Journal
from warnloop.levels import Seeker
from warnloop.plans import devices, is_device
from warnloop.rules import SOUNDING_KINDS
from warnloop.sounding import Sounder
from warnloop.tables import Runner, table_of
from warnloop.talk import Talk
from warnloop.things import is_row, show_words
from warnloop.wires import Wires

LOST_PLACE = 4


def addresses_of(plan, kinds):
    """The addresses, rising, of the plan's devices of these kinds."""
    return sorted([address for spot, kind, address in devices(plan) if kind in kinds])


def is_night(hour):
    """Whether seekers are asked by night at this hour."""
    return hour < 6 or hour >= 22


def do_deed(wires, deed):
    """Does the deed to the wires; NoDeed where it has no form of a deed."""
    if not is_row(deed, 2, 4):
        raise NoDeed("a deed is a tuple of a word and of what it is done to")
    word = deed[0]
    if word == "in" and len(deed) == 4 and is_device(deed[2], deed[3]):
        wires.put_in(deed[1], deed[2], deed[3])
    elif word == "out" and len(deed) == 2:
        wires.take_out(deed[1])
    elif word == "cut" and len(deed) == 2:
        wires.cut(deed[1])
    elif word == "short" and len(deed) == 2:
        wires.short(deed[1])
    elif word == "mend" and len(deed) == 2:
        wires.mend(deed[1])
    else:
        raise NoDeed("no deed has this form")


def spoil(answer, place, by):
    """The answer with one number changed, or None where it is lost."""
    if place == LOST_PLACE:
        return None
    numbers = list(answer)
    numbers[place] += by
    return tuple(numbers)


def spoil_all(answers, spoils):
    """The answers that are left behind all spoils."""
    told = list(answers)
    for number, place, by in spoils:
        # A lost one stays as None till all is done, so that no other one's number moves.
        if number < len(told) and told[number] is not None:
            told[number] = spoil(told[number], place, by)
    return [answer for answer in told if answer is not None]


class House:
    """A house of a plan and of rules that are let by."""

    def __init__(self, plan, rules, marks, delays):
        self.wires = Wires(plan)
        self.run = Runner(table_of(plan, rules))
        self.talk = Talk(tuple(sorted([address for spot, kind, address in devices(plan)])))
        self.seekers = {address: Seeker(marks) for address in addresses_of(plan, ("seeker",))}
        self.knobs = {address: False for address in addresses_of(plan, ("knob",))}
        self.outs = Sounder(tuple(zip(addresses_of(plan, SOUNDING_KINDS), delays)))
        self.journal = Journal([])
        self.dumb = []

    def befall(self, deed):
        """The deed befalls the house."""
        try:
            do_deed(self.wires, deed)
        except (NoStretch, NoSpot):
            raise NoDeed("the plan has nothing there that it could befall") from None

    def beat(self, words, spoils, turned, hour):
        """One beat; the events of it, which are written into the journal too."""
        self.wires.come_to_rest()
        events = self.talk.beat(spoil_all(self.answers_by(words), spoils))
        events.extend(self.ask_heard(is_night(hour)))
        events.extend(self.outs.beat(self.run.beat(self.warned(), turned, hour)))
        events.extend(self.tell_dumb())
        for event in events:
            self.journal.write(show_words(event))
        return events

    def answers_by(self, words):
        """What the devices that are heard answer, loop by loop, from end A and then from end B."""
        said = {spot: word for spot, word in words}
        held = {spot: address for spot, kind, address in self.wires.there()}
        turn = self.talk.turn()
        told = []
        for loop in range(len(self.wires.plan[1])):
            for spot in self.wires.heard(loop, "A") + self.wires.heard(loop, "B"):
                told.append(frame(held[spot], turn, said.get(spot, 0)))
        return told

    def ask_heard(self, night):
        """Asks the seekers and looks at the knobs that were heard at this beat; the events of them."""
        events = []
        for address in self.talk.heard_now():
            word = self.talk.word_of(address)
            if address in self.seekers:
                told = self.seekers[address].ask(word, night)
                events.extend([(how, address, number) for how, number in told])
            elif word > 0 and not self.knobs.get(address, True):
                self.knobs[address] = True
                events.append(("knob", address))
        return events

    def tell_dumb(self):
        """The events of outs that are sounded and lost, and were not both behind the beat ahead."""
        ahead = self.dumb
        gone = self.talk.lost()
        self.dumb = [address for address in self.outs.sounded() if address in gone]
        return [("dumb", address) for address in self.dumb if address not in ahead]

    def press(self):
        """Each waiting out has one beat left; their addresses."""
        return self.outs.press()

    def silence(self):
        """Each sounding out is silenced; their addresses."""
        return self.outs.silence()

    def reset(self):
        """Each sounding or silenced out that is not wanted is still, and nobody is warned; the outs' addresses."""
        told = self.outs.reset()
        for seeker in self.seekers.values():
            seeker.reset()
        self.knobs = {address: False for address in self.knobs}
        return told

    def lengthen(self, address):
        """The waiting out waits longer by its delay, once; what it has left."""
        return self.outs.lengthen(address)

    def put_out(self, address, beats):
        """The out is out of use for so many beats from now on."""
        self.outs.put_out(address, beats)

    def notes(self):
        """The notes of all events so far."""
        return self.journal.notes()

    def lost(self):
        """The addresses that are lost, rising."""
        return self.talk.lost()

    def sounded(self):
        """The addresses, rising, of the outs that are sounding and in use."""
        return self.outs.sounded()

    def warned(self):
        """The addresses that are warned, rising."""
        told = [address for address, seeker in self.seekers.items() if seeker.warned()]
        told.extend([address for address, pressed in self.knobs.items() if pressed])
        return tuple(sorted(told))
