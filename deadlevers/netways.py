"""Ways in nets: where water comes, and which taps some way passes.

Taps are pairs of nodes, the ends are the nodes 0 and 1. Columns have a bit for each of some settings.
"""


def tap_lists(nodes, taps, kept):
    """By node the (tap, node at the other end) of those taps that are kept."""
    beside = [[] for _ in range(nodes)]
    for tap in kept:
        one, other = taps[tap]
        beside[one].append((tap, other))
        beside[other].append((tap, one))
    return beside


def reached_columns(beside, start, columns, full):
    """By node at which settings water comes there from a start, from the columns of the taps."""
    reached = [0] * len(beside)
    reached[start] = full
    waiting = [start]
    while waiting:
        node = waiting.pop()
        for tap, other in beside[node]:
            more = reached[node] & columns[tap] & ~reached[other]
            if more:
                reached[other] |= more
                waiting.append(other)
    return reached


class BlockSearch:
    """The search for the taps that some way passes.

    These are the ones on a round trip with one tap more between the ends; of it the search begins
    at node 1, and never goes on from node 0. `order` has by node when it was found, `ahead` from
    which one, `low` the first node to which a tap leads back from there or from what was found behind
    it, `taps` the taps behind which the search may still come back.
    """

    def __init__(self, beside):
        self.order = {0: 0, 1: 1}
        self.low = {1: 1}
        self.ahead = {}
        self.taps = []
        self.way = [(1, -1)]
        self.left = {1: list(beside[1])}
        while self.way:
            node, came = self.way[-1]
            if self.left[node]:
                tap, other = self.left[node].pop()
                if tap != came:
                    self.follow(beside, node, tap, other)
            else:
                self.go_back()

    def follow(self, beside, node, tap, other):
        """Go on to a new node, or note that the tap leads back."""
        if other not in self.order:
            self.taps.append(tap)
            self.order[other] = len(self.order)
            self.low[other] = self.order[other]
            self.ahead[other] = node
            self.left[other] = list(beside[other])
            self.way.append((other, tap))
        elif self.order[other] < self.order[node]:
            self.taps.append(tap)
            self.low[node] = min(self.low[node], self.order[other])

    def go_back(self):
        """Leave a node; all behind it goes if nothing there leads back beyond the node ahead."""
        node, came = self.way.pop()
        if self.way:
            ahead = self.way[-1][0]
            if self.low[node] >= self.order[ahead]:
                self.taps = self.taps[:self.taps.index(came)]
            else:
                self.low[ahead] = min(self.low[ahead], self.low[node])


def passed_taps(nodes, taps, kept):
    """The ascending taps of those that are kept that some way of these passes."""
    return sorted(BlockSearch(tap_lists(nodes, taps, kept)).taps)


def ordered_way(taps, way):
    """The taps of a way in order, from node 0 on."""
    node = 0
    left = list(way)
    made = []
    while left:
        tap = [found for found in left if node in taps[found]][0]
        left = [found for found in left if found != tap]
        made.append(tap)
        one, other = taps[tap]
        node = other if node == one else one
    return made


def found_way(nodes, taps, tap):
    """The taps of some way through a tap, in order, or None."""
    kept = passed_taps(nodes, taps, list(range(len(taps))))
    if tap not in kept:
        return None
    # What is left where no more can go while the tap is passed is one way.
    for other in list(kept):
        if other != tap and other in kept:
            fewer = passed_taps(nodes, taps, [found for found in kept if found != other])
            if tap in fewer:
                kept = fewer
    return ordered_way(taps, kept)


def merged_nodes(names, one, other):
    """By node its name, the least of those that are one with it, if two of them are made one."""
    low = min(names[one], names[other])
    high = max(names[one], names[other])
    return [low if name == high else name for name in names]


def found_cut(nodes, taps, way, tap):
    """The taps of some least cut that holds a tap of a way, ascending."""
    names = list(range(nodes))
    for other in way:
        if other != tap:
            names = merged_nodes(names, taps[other][0], taps[other][1])
    # As much as can be is opened while the lamp stays dark: what is left is needed.
    for other, (first, second) in enumerate(taps):
        merged = merged_nodes(names, first, second)
        if other != tap and merged[0] != merged[1]:
            names = merged
    return [other for other, (first, second) in enumerate(taps) if names[first] != names[second]]
