"""Wires as a graph that is searched: a second way to tell what openers do and what is heard."""


class Graph:
    """Stretches and openers as they are now; each opener has a node for each of its sides."""

    def __init__(self, plan, faults, gaps):
        self.hows = faults
        self.edges = []
        self.links = {}
        self.lasts = [len(places) + 1 for places in plan[1]]
        for loop, places in enumerate(plan[1]):
            inner = [at for at, place in enumerate(places, start=1) if place[0] == "opener"]
            for at in inner:
                self.links[(loop, at)] = (loop, at) not in gaps
            for at in range(len(places) + 1):
                left = ("b side", loop, at) if at in inner or at == 0 else (loop, at, 0)
                right = ("a side", loop, at + 1) if at + 1 in inner or at == len(places) else (loop, at + 1, 0)
                self.edges.append(((loop, at, 0), left, right))
            for at, place in enumerate(places, start=1):
                for number in range(1, len(place[2]) + 1):
                    self.edges.append(((loop, at, number), (loop, at, number - 1), (loop, at, number)))
        self.gaps = gaps

    def search(self, start):
        """The stretches and the nodes that can be come to from this node, cut ones left out."""
        nodes, wires, ahead = {start}, set(), [start]
        while ahead:
            node = ahead.pop()
            found = []
            for stretch, left, right in self.edges:
                if node in (left, right) and self.hows.get(stretch, "whole") != "cut":
                    wires.add(stretch)
                    found += [left, right]
            if node[0] in ("a side", "b side") and self.links.get(node[1:], False) and node != start:
                found.append(("b side" if node[0] == "a side" else "a side",) + node[1:])
            ahead += [one for one in found if one not in nodes]
            nodes |= set(found)
        return wires, nodes

    def has_short(self, wires):
        return "short" in [self.hows.get(stretch, "whole") for stretch in wires]

    def openers(self):
        ends = [(loop, at) for loop, last in enumerate(self.lasts) for at in (0, last)]
        return sorted(list(self.links) + ends)

    def parts_by_act(self, opener):
        return any(self.has_short(self.search((side,) + opener)[0]) for side in ("a side", "b side"))

    def end_node(self, loop, end):
        return ("b side", loop, 0) if end == "A" else ("a side", loop, self.lasts[loop])

    def ways(self, loop, end):
        """The spots to which a way leads from this end past no parted opener, shorts or not."""
        start = self.end_node(loop, end)
        if start[1:] in self.gaps:
            return []
        return sorted(node for node in self.search(start)[1] if node[0] not in ("a side", "b side"))

    def heard(self, loop, end):
        if self.has_short(self.search(self.end_node(loop, end))[0]):
            return []
        return self.ways(loop, end)


def rest_of(plan, faults):
    """The openers that are parted at rest, rising: from all closed, each acts in two rounds."""
    gaps = []
    for opener in Graph(plan, dict(faults), gaps).openers() * 2:
        parts = Graph(plan, dict(faults), gaps).parts_by_act(opener)
        gaps = sorted(set(gaps) - {opener} | ({opener} if parts else set()))
    return tuple(gaps)
