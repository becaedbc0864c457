"""A second reckoning of a house, straight by the words of points 40 to 42, with a row of all that was."""

from graph import Graph, rest_of
from rule_samples import said
from sounding_model import Model

NIGHT = (22, 23, 0, 1, 2, 3, 4, 5)


def all_devices(plan):
    """Each device as (spot, kind, address), in order of spots."""
    told = []
    for loop, places in enumerate(plan[1]):
        for at, (kind, address, spur) in enumerate(places, start=1):
            row = [(kind, address)] + list(spur)
            told.extend(((loop, at, number),) + pair for number, pair in enumerate(row) if pair[0] != "opener")
    return told


def frame_of(address, turn, word):
    return [address, turn, word, (3 * address + 5 * turn + 7 * word) % 257]


class SeekerModel:
    """A seeker's askings, all of them kept."""

    def __init__(self, marks):
        self.marks, self.base, self.rows, self.calm, self.warned, self.since = marks, None, [], 0, False, 0

    def ask(self, level, night):
        first, by_day, by_night = self.marks
        number, before = len(self.rows), self.base
        self.base = level if before is None else before
        rise = level - self.base
        ahead = self.rows[-1][0] if self.rows else False
        self.rows.append((rise >= first, rise >= (by_night if night else by_day)))
        events = [("first", number)] if rise >= first and not ahead else []
        last = self.rows[max(self.since, number - 2):]
        if not self.warned and len(last) == 3 and all(above for _, above in last):
            self.warned = True
            events.append(("warning", (number - 2, number - 1, number)))
        self.calm = self.calm + 1 if rise < first else 0
        if self.calm == 4:
            self.calm = 0
            self.base += (level > self.base) - (level < self.base)
        if self.base >= 100 and (before is None or before < 100):
            events.append(("dirt", self.base))
        return events

    def reset(self):
        self.warned, self.since = False, len(self.rows)


class HouseModel:
    def __init__(self, plan, rules, marks, delays):
        self.plan, self.rules = plan, rules
        self.hows = {}
        self.there = {spot: address for spot, _, address in all_devices(plan)}
        kinds = {address: kind for _, kind, address in all_devices(plan)}
        self.kinds = dict(sorted(kinds.items()))
        self.seekers = {address: SeekerModel(marks) for address, kind in self.kinds.items() if kind == "seeker"}
        self.pressed, self.history, self.dumb, self.notes = set(), [], set(), []
        outs = [address for address, kind in self.kinds.items() if kind in ("bell", "door")]
        self.outs = Model(tuple(zip(outs, delays)))
        # For each address, beat by beat, the unlike words that were counted.
        self.counted = {address: [] for address in self.kinds}
        self.lost = set()

    def befall(self, deed):
        word, where, *rest = deed
        if word == "out":
            self.there[where] = None
        elif word == "in":
            self.there[where] = rest[1]
        else:
            self.hows[where] = {"cut": "cut", "short": "short", "mend": "whole"}[word]

    def answers(self, words, spoils):
        graph, turn = Graph(self.plan, self.hows, rest_of(self.plan, self.hows)), len(self.history) % 8
        told = []
        for loop in range(len(self.plan[1])):
            for end in "AB":
                for spot in graph.heard(loop, end):
                    if self.there.get(spot) is not None:
                        told.append(frame_of(self.there[spot], turn, dict(words).get(spot, 0)))
        gone = set()
        for number, place, by in spoils:
            if number < len(told) and place == 4:
                gone.add(number)
            elif number < len(told) and number not in gone:
                told[number][place] += by
        return [answer for number, answer in enumerate(told) if number not in gone]

    def talk(self, answers):
        turn, events = len(self.history) % 8, []
        for address, row in self.counted.items():
            row.append({word for word in range(256) if frame_of(address, turn, word) in answers})
            if len(row[-1]) > 1 and not (len(row) > 1 and len(row[-2]) > 1):
                events.append(("two", address))
            if len(row) >= 3 and all(len(words) != 1 for words in row[-3:]) and address not in self.lost:
                self.lost.add(address)
                events.append(("lost", address))
            if len(row[-1]) == 1 and address in self.lost:
                self.lost.discard(address)
                events.append(("back", address))
        return events

    def warners(self, hour):
        events = []
        for address, kind in self.kinds.items():
            if len(self.counted[address][-1]) != 1:
                continue
            word = list(self.counted[address][-1])[0]
            if kind == "seeker":
                for how, number in self.seekers[address].ask(word, hour in NIGHT):
                    events.append((how, address, number))
            if kind == "knob" and word > 0 and address not in self.pressed:
                self.pressed.add(address)
                events.append(("knob", address))
        return events

    def warned(self):
        return tuple(sorted(self.pressed | {address for address, one in self.seekers.items() if one.warned}))

    def sounded(self):
        return [out["address"] for out in self.outs.outs if out["how"] == "sounding" and not out["off"]]

    def beat(self, words, spoils, turned, hour):
        events = self.talk(self.answers(words, spoils)) + self.warners(hour)
        self.history.append((self.warned(), turned, hour))
        events += self.outs.beat(said(self.plan, self.rules, self.history))
        dumb = set(self.sounded()) & self.lost
        events += [("dumb", address) for address in sorted(dumb - self.dumb)]
        self.dumb = dumb
        for event in events:
            flat = [part for one in event for part in (one if isinstance(one, tuple) else (one,))]
            self.notes.append(" ".join(str(part) for part in flat))
        return events

    def reset(self):
        told = self.outs.reset()
        self.pressed = set()
        for one in self.seekers.values():
            one.reset()
        return told
