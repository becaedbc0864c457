"""The store: what it holds, and which loads it feeds when there are no mains."""


class Store:
    """A store that holds up to full, and loads, a tuple of (name, draw), the first of which it keeps."""

    def __init__(self, full, gain, loads):
        self.full = full
        self.gain = gain
        self.loads = loads
        self.many_kept = len(loads)
        self.charge = full

    def keep(self, many):
        """The first so many loads are kept from now on."""
        self.many_kept = many

    def kept_loads(self):
        """The loads that are kept."""
        return self.loads[:self.many_kept]

    def beat(self, mains):
        """One beat, with mains or without; the names of the loads that it feeds, in order."""
        if mains:
            self.charge = min(self.full, self.charge + self.gain)
            return tuple([name for name, draw in self.kept_loads()])
        fed = []
        for name, draw in self.kept_loads():
            # Fed is a beginning: behind one that can't be fed none is, however little it draws.
            if draw > self.charge:
                break
            self.charge -= draw
            fed.append(name)
        return tuple(fed)

    def held(self):
        """What the store holds."""
        return self.charge

    def stands(self):
        """How many beats without mains would feed all kept loads from now on, None where these draw nothing."""
        drawn = sum([draw for name, draw in self.kept_loads()])
        return self.charge // drawn if drawn > 0 else None
