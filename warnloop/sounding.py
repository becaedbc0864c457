"""Sounding: how bells and doors stand, beat by beat and by hand."""

from warnloop.errors import NoAddress, NoHand
from warnloop.things import is_whole

STILL = ("still", 0)
SOUNDING = ("sounding", 0)
SILENCED = ("silenced", 0)


def waiting(left):
    """How an out stands that has so many beats left to wait."""
    return ("waiting", left) if left > 0 else SOUNDING


class Sounder:
    """Outs, a rising tuple of (address, delay), that sound when they are wanted."""

    def __init__(self, outs):
        self.delays = {address: delay for address, delay in outs}
        self.standing = {address: STILL for address, delay in outs}
        self.lengthened = {address: False for address, delay in outs}
        self.unused = {address: 0 for address, delay in outs}
        self.wanted = ()

    def beat(self, wanted):
        """Takes in which addresses are wanted; the outs that stand otherwise, and those in use again."""
        has_new = any([address not in self.wanted for address in wanted])
        told = []
        for address in self.delays:
            how = self.standing[address][0]
            self.standing[address] = self.next_of(address, address in wanted, has_new)
            if self.standing[address][0] != how:
                told.append((self.standing[address][0], address))
        self.wanted = tuple(wanted)
        return told + self.count_unused()

    def next_of(self, address, is_wanted, has_new):
        """How the out stands behind a beat."""
        how, left = self.standing[address]
        if how == "silenced" and has_new:
            return SOUNDING
        if how == "still" and is_wanted:
            self.lengthened[address] = False
            return waiting(self.delays[address])
        if how == "waiting":
            return waiting(left - 1) if is_wanted else STILL
        return (how, left)

    def count_unused(self):
        """Makes each time out of use one beat shorter; the events of those that end."""
        ended = [address for address, beats in self.unused.items() if beats == 1]
        self.unused = {address: max(0, beats - 1) for address, beats in self.unused.items()}
        return [("used", address) for address in ended]

    def standing_by(self, words):
        """The addresses, rising, of the outs that stand by one of these words."""
        return [address for address, stand in self.standing.items() if stand[0] in words]

    def put_all(self, addresses, stand):
        """Lets these outs stand so; their addresses."""
        for address in addresses:
            self.standing[address] = stand
        return addresses

    def press(self):
        """Each waiting out has one beat left; their addresses."""
        return self.put_all(self.standing_by(("waiting",)), waiting(1))

    def silence(self):
        """Each sounding out is silenced; their addresses."""
        return self.put_all(self.standing_by(("sounding",)), SILENCED)

    def reset(self):
        """Each sounding or silenced out that is not wanted is still; their addresses."""
        loud = self.standing_by(("sounding", "silenced"))
        return self.put_all([address for address in loud if address not in self.wanted], STILL)

    def check_address(self, address):
        """Refuses what is no out's address."""
        if not is_whole(address) or address not in self.delays:
            raise NoAddress("no out has such an address")

    def lengthen(self, address):
        """The waiting out waits longer by its delay, once; what it has left."""
        self.check_address(address)
        how, left = self.standing[address]
        if how != "waiting" or self.lengthened[address]:
            raise NoHand("only a waiting out is lengthened, and once")
        self.lengthened[address] = True
        self.standing[address] = waiting(left + self.delays[address])
        return left + self.delays[address]

    def put_out(self, address, beats):
        """The out is out of use for so many beats from now on."""
        self.check_address(address)
        self.unused[address] = beats

    def state_of(self, address):
        """How the out stands."""
        self.check_address(address)
        return self.standing[address]

    def sounded(self):
        """The addresses, rising, of the outs that are sounding and in use."""
        return [address for address in self.standing_by(("sounding",)) if self.unused[address] <= 0]

    def out_of_use(self):
        """Each out that is out of use as (address, beats left), rising."""
        return [(address, beats) for address, beats in self.unused.items() if beats > 0]
