"""Plain searches over small nets."""

import functools
import random

from deadlevers.nets import Net
from helpers import all_lots, broken, settings_of, turned

BRIDGE = Net(4, [(0, 2), (0, 3), (2, 1), (3, 1), (2, 3)])


def drawn_net(rng, nodes, taps):
    return Net(nodes, [tuple(rng.sample(range(nodes), 2)) for _ in range(taps)])


def drawn_nets(seed, count, nodes, taps):
    rng = random.Random(seed)
    return [drawn_net(rng, rng.choice(nodes), rng.choice(taps)) for _ in range(count)]


def all_ways(net):
    """All ways from end to end, told by their taps in order."""
    found = []

    def walk(node, passed, way):
        if node == 1:
            found.append(way)
            return
        for tap, pair in enumerate(net.taps):
            if node in pair:
                other = pair[0] + pair[1] - node
                if other not in passed:
                    walk(other, passed | {other}, way + (tap,))

    walk(0, {0}, ())
    return found


def least_cuts(net):
    """All least cuts, as ascending tuples."""
    cuts = [frozenset()]
    for way in all_ways(net):
        wider = {cut if cut & set(way) else cut | {tap} for cut in cuts for tap in way}
        cuts = [cut for cut in wider if not any(other < cut for other in wider)]
    return sorted(tuple(sorted(cut)) for cut in cuts)


def net_ways_lamp(ways, setting):
    return int(any(all(setting[tap] for tap in way) for way in ways))


class PlainNet:
    """A net's lamp and what hangs on which tap, at all settings."""

    def __init__(self, net):
        self.net = net
        self.many = len(net.taps)
        self.ways = all_ways(net)
        self.settings = settings_of(self.many)
        self.lamp = {at: net_ways_lamp(self.ways, at) for at in self.settings}
        self.hung = {at: tuple(tap for tap in range(self.many) if self.lamp[turned(at, tap)] != self.lamp[at])
                     for at in self.settings}
        self.needed = tuple(sorted({tap for way in self.ways for tap in way}))

    def cleared(self, settings):
        return {(tap, at[tap]) for at in settings for tap in self.hung[at]}

    def right(self, lot):
        return [at for at in self.settings if self.lamp[broken(at, lot)] == self.lamp[at]]

    def let_lots(self):
        """The lots of taps that matter that some list that clears all of these lets by."""
        return [lot for lot in all_lots(self.many) if all(tap in self.needed for tap, _ in lot) and
                len(self.cleared(self.right(lot))) == 2 * len(self.needed)]


@functools.lru_cache(maxsize=64)
def plain_of(nodes, taps):
    return PlainNet(Net(nodes, taps))


def ladder(rungs):
    """Two rows of nodes, with a tap between neighbours, from corner to corner."""
    names = {(0, 0): 0, (1, rungs - 1): 1}

    def name(row, column):
        return names.setdefault((row, column), len(names))

    taps = [(name(row, column), name(row, column + 1)) for column in range(rungs - 1) for row in (0, 1)]
    taps += [(name(0, column), name(1, column)) for column in range(rungs)]
    return Net(2 * rungs, taps)
