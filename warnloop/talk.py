"""Talk: beat by beat, which addresses are heard, and which are lost and back."""

from warnloop.errors import NoAddress
from warnloop.frames import is_frame
from warnloop.things import is_whole

TURNS = 8
BEATS_TO_LOST = 3


class Talk:
    """The talk with a rising tuple of addresses."""

    def __init__(self, addresses):
        self.beats = 0
        self.words = {address: None for address in addresses}
        self.missed = {address: 0 for address in addresses}
        self.doubled = {address: False for address in addresses}
        self.gone = {address: False for address in addresses}

    def turn(self):
        """The turn of the coming beat."""
        return self.beats % TURNS

    def beat(self, answers):
        """Takes in a beat's answers; the events that they make."""
        counted = self.count_words(answers)
        self.beats += 1
        events = []
        for address, words in counted.items():
            if len(words) == 1:
                events.extend(self.hear(address, words[0]))
            else:
                events.extend(self.miss(address, len(words) > 1))
        return events

    def count_words(self, answers):
        """The unlike words that are counted for each address."""
        counted = {address: [] for address in self.words}
        for answer in answers:
            if is_frame(answer) and answer[1] == self.turn() and answer[0] in counted:
                if answer[2] not in counted[answer[0]]:
                    counted[answer[0]].append(answer[2])
        return counted

    def hear(self, address, word):
        """The address is heard by this word; the events of it."""
        events = [("back", address)] if self.gone[address] else []
        self.words[address] = word
        self.missed[address] = 0
        self.doubled[address] = False
        self.gone[address] = False
        return events

    def miss(self, address, is_two):
        """The address is not heard, perhaps because it is two; the events of it."""
        events = [("two", address)] if is_two and not self.doubled[address] else []
        self.missed[address] += 1
        self.doubled[address] = is_two
        if self.missed[address] >= BEATS_TO_LOST and not self.gone[address]:
            self.gone[address] = True
            events.append(("lost", address))
        return events

    def word_of(self, address):
        """The word of the address that was heard last, None at first."""
        if not is_whole(address) or address not in self.words:
            raise NoAddress("the talk is not with such an address")
        return self.words[address]

    def lost(self):
        """The addresses that are lost, rising."""
        return [address for address, gone in self.gone.items() if gone]

    def heard_now(self):
        """The addresses that were heard at the last beat, rising."""
        if self.beats == 0:
            return []
        return [address for address, many in self.missed.items() if many == 0]
