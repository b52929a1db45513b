"""Point 65: two dead taps that hide each other."""

import random
import unittest

from deadlevers.errors import Refused
from deadlevers.hiding import pair_story
from deadlevers.joining import net_paper
from deadlevers.nets import Net, cleared_taps, needed_taps, net_broken, net_lamp, tree_net
from helpers import Case, all_lots, drawn_trees, has_only_tuples
from net_helpers import BRIDGE, PlainNet, all_ways, drawn_net, drawn_nets, ladder, least_cuts

GRID = Net(6, [(0, 2), (2, 4), (4, 1), (0, 3), (3, 5), (5, 1), (2, 3), (4, 5)])
THICK = Net(7, [(0, 2), (2, 0), (0, 3), (2, 4), (4, 1), (3, 1), (3, 2), (5, 6), (6, 2)])


class PairTest(Case):

    def holds(self, net):
        found = pair_story(net)
        self.assertTrue(has_only_tuples(found) and len(found) == 2)
        settings, lot = found
        needed = needed_taps(net)
        self.assertLessEqual(len(settings), 2 * len(needed))
        self.gives((needed, needed), cleared_taps(net, settings))
        self.assertTrue(lot[0][0] < lot[1][0] and {place for _, place in lot} == {0, 1})
        self.assertTrue({tap for tap, _ in lot} <= set(needed))
        for at in settings:
            self.gives(net_lamp(net, at), net_broken(net, lot, at))
        return lot

    def test_nets(self):
        tried = 0
        for net in drawn_nets(1, 600, (4, 5, 6, 7), range(5, 13)) + [BRIDGE, GRID, THICK, ladder(3), ladder(5)]:
            if net_paper(net)[0] == "bridge":
                tried += 1
                self.holds(net)
            else:
                self.refuses(net, pair_story, net)
        self.assertGreater(tried, 60)

    def test_which_pairs(self):
        """Just pairs of one stuck up, one down, on one way and in one least cut, are let by."""
        nets = [net for net in drawn_nets(3, 300, (4, 5, 6), (5, 6, 7)) if net_paper(net)[0] == "bridge"]
        for net in [BRIDGE] + nets[:12]:
            plain = PlainNet(net)
            ways, cuts = all_ways(net), least_cuts(net)
            let = []
            for lot in all_lots(plain.many):
                if len(lot) == 2 and {tap for tap, _ in lot} <= set(plain.needed):
                    taps = {tap for tap, _ in lot}
                    worth = {place for _, place in lot} == {0, 1} and any(taps <= set(way) for way in ways) and any(
                        taps <= set(cut) for cut in cuts)
                    self.assertEqual(len(plain.cleared(plain.right(lot))) == 2 * len(plain.needed), worth)
                    let += [lot] * worth
            self.assertIn(self.holds(net), let)

    def test_limits(self):
        rng = random.Random(4)
        tried = 0
        for net in [drawn_net(rng, nodes, 24) for nodes in range(6, 20)] * 3 + [
                ladder(8), Net(4, BRIDGE.taps * 4 + BRIDGE.taps[:4]),
                # A bridge with one long tap, and one with eleven ways beside each other.
                Net(23, [(0, 2), (0, 3), (2, 1), (3, 1), (2, 4)] + [(node, node + 1) for node in range(4, 22)] + [(22, 3)]),
                Net(13, [(0, node) for node in range(2, 13)] + [(node, 1) for node in range(2, 13)] + [(2, 3), (5, 9)])]:
            if net_paper(net)[0] == "bridge":
                tried += 1
                self.holds(net)
        self.assertGreater(tried, 25)

    def test_refused(self):
        for net in [tree_net(tree) for tree in drawn_trees(5, 10, [3, 6, 9])] + [Net(3, [(0, 2)]), Net(2, [(0, 1)] * 3)]:
            self.refuses(net, pair_story, net)
        self.fails(Refused, Net(2, [(0, 1)]), pair_story, Net(2, [(0, 1)]))


if __name__ == "__main__":
    unittest.main()
