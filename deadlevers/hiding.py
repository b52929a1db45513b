"""Nets that are no trees: two dead taps that hide each other."""

from deadlevers.errors import Refused
from deadlevers.joining import bridge_paper, is_no_tree
from deadlevers.nets import left_by
from deadlevers.netways import reached_columns, tap_lists


class PairSearch:
    """The search for settings that clear each tap while one tap is stuck up and one down, and the lamp is right.

    All taps of the net matter. `ups` and `downs` have by tap a setting that clears it so.
    """

    def __init__(self, net, high, low):
        self.taps = net.taps
        self.high = high
        self.low = low
        self.beside = tap_lists(net.nodes, net.taps, list(range(len(net.taps))))
        self.ups = {}
        self.downs = {}

    def lamp(self, setting):
        """The lamp at a setting."""
        return reached_columns(self.beside, 0, setting, 1)[1]

    def broken(self, setting):
        """The lamp at a setting with the two taps dead."""
        dead = {self.high: 1, self.low: 0}
        return self.lamp([dead.get(tap, place) for tap, place in enumerate(setting)])

    def try_way(self, way):
        """Open all of a way but one tap, if the broken net is dark then, too."""
        for tap in way:
            setting = [1 if other in way and other != tap else 0 for other in range(len(self.taps))]
            if tap not in self.downs and self.broken(setting) == 0:
                self.downs[tap] = setting

    def try_ways(self):
        """Go through the ways until each tap is cleared down."""
        waiting = [(0, (0,), ())]
        while waiting and len(self.downs) < len(self.taps):
            node, passed, way = waiting.pop()
            if node == 1:
                self.try_way(way)
            else:
                waiting.extend([
                    (other, passed + (other,), way + (tap,)) for tap, other in self.beside[node] if other not in passed
                ])

    def try_cut(self, nodes):
        """Close all taps that lead out of some nodes but one, if that lights the net, and the broken one is lit."""
        cut = [tap for tap, (one, other) in enumerate(self.taps) if (one in nodes) != (other in nodes)]
        for tap in cut:
            setting = [0 if other in cut and other != tap else 1 for other in range(len(self.taps))]
            if tap not in self.ups and self.lamp(setting) == 1 and self.broken(setting) == 1:
                self.ups[tap] = setting

    def try_cuts(self):
        """Go through all nodes that hang together around the end 0 until each tap is cleared up."""
        waiting = [((0,), (1,))]
        while waiting and len(self.ups) < len(self.taps):
            nodes, others = waiting.pop()
            beyond = [
                other for node in nodes for _, other in self.beside[node] if other not in nodes and other not in others
            ]
            if beyond:
                waiting.append((nodes + (beyond[0],), others))
                waiting.append((nodes, others + (beyond[0],)))
            else:
                self.try_cut(nodes)


def pair_story(net):
    """A list that clears all taps that matter, and two dead ones that it lets by."""
    left = left_by(net, ())
    if not is_no_tree(left):
        raise Refused(net)
    _, inner, taps = left
    bridge = bridge_paper(inner)[2]
    search = PairSearch(inner, bridge[0], bridge[4])
    search.try_ways()
    search.try_cuts()
    numbers = {tap: at for at, tap in enumerate(taps)}
    settings = []
    for tap in range(len(taps)):
        for found in (search.ups[tap], search.downs[tap]):
            settings.append(tuple([
                found[numbers[place]] if place in numbers else 0 for place in range(len(net.taps))
            ]))
    return (tuple(settings), tuple(sorted([(taps[search.high], 1), (taps[search.low], 0)])))
