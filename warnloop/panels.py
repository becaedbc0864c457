"""Panels: a ring of them, and their logs, which become one."""

from warnloop.errors import NoLink, NoLog, NoPanel, NoText
from warnloop.things import is_line, is_rising, is_row, is_within

MOST_SIGNS = 20
MOST_PANEL = 3
MOST_NUMBER = 999


def is_entry(thing):
    """Whether the thing is an entry of a log."""
    if not is_row(thing, 4, 4):
        return False
    stamp, panel, number, text = thing
    if not is_within(stamp, 0, MOST_NUMBER) or not is_within(number, 0, MOST_NUMBER):
        return False
    return is_within(panel, 0, MOST_PANEL) and is_line(text, 1, MOST_SIGNS)


def is_log(thing):
    """Whether the thing is a log."""
    return isinstance(thing, list) and all([is_entry(part) for part in thing]) and is_rising(thing)


def joined(one, other):
    """All entries of both logs, sorted, each once; NoLog where two unlike ones have the same panel and number."""
    known = {}
    for entry in one + other:
        stamp, panel, number, text = entry
        if known.setdefault((panel, number), entry) != entry:
            raise NoLog("two unlike entries have the same panel and number")
    return sorted(known.values())


class Ring:
    """So many panels in a ring, each with a log; link k ties panel k and the next one."""

    def __init__(self, many):
        self.many = many
        self.logs = [[] for panel in range(many)]
        self.tied = [True for link in range(many)]

    def check_panel(self, panel):
        """Refuses what is no panel."""
        if not is_within(panel, 0, self.many - 1):
            raise NoPanel("the ring has no such panel")

    def tie(self, link, whole):
        """The link is whole from now on, or it is not."""
        if not is_within(link, 0, self.many - 1):
            raise NoLink("the ring has no such link")
        self.tied[link] = whole

    def cut(self, link):
        """The link is cut from now on."""
        self.tie(link, False)

    def mend(self, link):
        """The link is whole from now on."""
        self.tie(link, True)

    def pairs(self):
        """The two panels of each whole link."""
        return [(link, (link + 1) % self.many) for link, whole in enumerate(self.tied) if whole]

    def write(self, panel, text):
        """Writes the text at the panel; its entry."""
        self.check_panel(panel)
        if not is_line(text, 1, MOST_SIGNS):
            raise NoText("an entry's text has one to twenty signs")
        log = self.logs[panel]
        stamp = max([entry[0] for entry in log], default=-1) + 1
        entry = (stamp, panel, len([known for known in log if known[1] == panel]), text)
        # Its stamp is the greatest one, so the log stays sorted.
        self.logs[panel] = log + [entry]
        return entry

    def beat(self):
        """Over each whole link both panels hand each other their logs."""
        # Each log is built anew beside the old ones, so that nothing is handed on twice in one beat.
        behind = list(self.logs)
        for one, other in self.pairs():
            behind[one] = joined(behind[one], self.logs[other])
            behind[other] = joined(behind[other], self.logs[one])
        self.logs = behind

    def log_of(self, panel):
        """The log of the panel."""
        self.check_panel(panel)
        return list(self.logs[panel])

    def houses(self):
        """The panels that whole links tie together, as rising lists, by their first ones rising."""
        told = [[panel] for panel in range(self.many)]
        for one, other in self.pairs():
            touched = [house for house in told if one in house or other in house]
            apart = [house for house in told if one not in house and other not in house]
            told = apart + [sorted([panel for house in touched for panel in house])]
        return sorted(told)
