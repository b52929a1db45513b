"""Points 65, of pairs, and 66: the fewest trials of nets, and mending."""

import itertools
import random
import time
import unittest

from deadlevers.errors import Refused, TooGreat
from deadlevers.joining import least_dead, three_paper
from deadlevers.mending import (fewest_cuts, fewest_ways, hiding_pairs, least_net_list, least_taken, least_welded,
                                net_list)
from deadlevers.nets import Net, cleared_taps, left_net, needed_taps, tree_net
from helpers import GREAT_TREES, Case, drawn_trees, has_only_tuples, some_trees
from net_helpers import BRIDGE, all_ways, drawn_nets, ladder, least_cuts, plain_of

NO_WAY = Net(4, [(0, 2), (0, 2), (3, 1)])
BESIDE = Net(2, [(0, 1)] * 12)
BEHIND = Net(13, [(0, 2)] + [(at, at + 1) for at in range(2, 12)] + [(12, 1)])
BRIDGES = Net(7, [(0, 2), (0, 3), (2, 4), (3, 4), (2, 3), (4, 5), (4, 6), (5, 1), (6, 1), (5, 6)])
SMALL = drawn_nets(1, 60, [3, 4, 5], [4, 5, 6, 7]) + [BRIDGE, NO_WAY, Net(2, [(0, 1)]), Net(3, [(0, 2)]), ladder(3)]
WIDE = drawn_nets(2, 12, [5, 6], [11, 12]) + [ladder(4), BESIDE, BEHIND]


def small_trees():
    return [tree_net(tree) for tree in some_trees(4)[::7] + drawn_trees(3, 12, [5, 6])]


def plain_cover(lots, wanted):
    """How few of the lots hold all that is wanted."""
    return next(count for count in range(len(lots) + 1) for chosen in itertools.combinations(lots, count)
                if set().union(*map(set, chosen)) >= set(wanted))


def is_honest_left(net, lot):
    """Whether an honest net with some tap that matters is left."""
    if not lot:
        return bool(needed_taps(net)) and three_paper(net) is None
    left = left_net(net, lot)
    return left[0] == "net" and three_paper(left[1]) is None


class ListTest(Case):

    def clears(self, net, settings, most):
        needed = needed_taps(net)
        self.assertTrue(has_only_tuples(settings) and len(settings) <= most)
        self.gives((needed, needed), cleared_taps(net, settings))

    def test_lists(self):
        for net in SMALL + WIDE + small_trees() + drawn_nets(4, 60, [6, 9, 20], [10, 20, 40]) + [ladder(20)]:
            self.clears(net, net_list(net), 2 * len(needed_taps(net)))
        self.gives((), net_list(NO_WAY))

    def test_great_nets(self):
        rows = Net(200, [(0, 2), (199, 1)] + [(at, at + 1) for at in range(2, 199)])
        pairs = Net(101, [(0, 2)] * 2 + [(at, at + 1) for at in range(2, 100) for _ in (0, 1)] + [(100, 1)] * 2)
        nets = [Net(2, [(0, 1)] * 200), rows, pairs, ladder(67)]
        nets += drawn_nets(5, 6, [10, 40, 90, 201], [200]) + [tree_net(tree) for tree in GREAT_TREES]
        for net in nets:
            start = time.perf_counter()
            found = net_list(net)
            self.assertLess(time.perf_counter() - start, 4)
            needed = needed_taps(net)
            self.assertLessEqual(len(found), 2 * len(needed))
            up, down = set(), set()
            for at in range(0, len(found), 400):
                one, other = cleared_taps(net, found[at:at + 400])
                up |= set(one)
                down |= set(other)
            self.assertEqual((sorted(up), sorted(down)), (list(needed), list(needed)))


class FewestTest(Case):

    def test_plain_search(self):
        for net in SMALL + small_trees():
            needed = needed_taps(net)
            ways = sorted({tuple(sorted(way)) for way in all_ways(net)})
            cuts = least_cuts(net) if needed else []
            for found, all_lots in ((fewest_ways(net), ways), (fewest_cuts(net), cuts)):
                self.assertTrue(has_only_tuples(found))
                self.assertEqual(list(found), sorted(set(found)))
                self.assertTrue(set(found) <= set(all_lots))
                self.assertEqual(set().union(*map(set, found)), set(needed))
                self.gives(plain_cover(all_lots, needed), len(found))
            settings = least_net_list(net)
            self.assertTrue(has_only_tuples(settings))
            self.gives((needed, needed), cleared_taps(net, settings))
            self.gives(len(fewest_ways(net)) + len(fewest_cuts(net)), len(settings))

    def test_no_list_is_shorter(self):
        """The fewest settings of all that clear all taps that matter."""
        for net in [net for net in SMALL if len(net.taps) <= 5][:25]:
            plain = plain_of(net.nodes, net.taps)
            clears = sorted({frozenset((tap, at[tap]) for tap in plain.hung[at]) for at in plain.settings}, key=sorted)
            clears = [own for own in clears if own and not any(own < other for other in clears)]
            wanted = {(tap, place) for tap in plain.needed for place in (0, 1)}
            self.gives(plain_cover(clears, wanted), len(least_net_list(net)))

    def test_pairs(self):
        for net in SMALL + small_trees():
            ways, cuts = all_ways(net), least_cuts(net) if needed_taps(net) else []
            pairs = tuple((one, other) for one, other in itertools.combinations(range(len(net.taps)), 2)
                          if any({one, other} <= set(way) for way in ways) and any({one, other} <= set(cut) for cut in cuts))
            self.gives(pairs, hiding_pairs(net))
            self.assertEqual(bool(pairs), least_dead(net) == 2)

    def test_pairs_are_let_by(self):
        """Just the lots of such a pair, one stuck up, one down, are let by by lists that clear all taps that matter."""
        for net in [net for net in SMALL if len(net.taps) <= 5]:
            let = [lot for lot in plain_of(net.nodes, net.taps).let_lots() if len(lot) == 2]
            worth = [((one, place), (other, 1 - place)) for one, other in hiding_pairs(net) for place in (0, 1)]
            self.assertEqual(sorted(let), sorted(worth))

    def test_edges(self):
        self.gives((2, 2), (len(fewest_ways(BRIDGE)), len(fewest_cuts(BRIDGE))))
        self.gives(((0, 3), (0, 4), (1, 2), (1, 4), (2, 4), (3, 4)), hiding_pairs(BRIDGE))
        self.gives(((), (), (), ()), (fewest_ways(NO_WAY), fewest_cuts(NO_WAY), least_net_list(NO_WAY), hiding_pairs(NO_WAY)))
        self.gives((tuple((tap,) for tap in range(12)), (tuple(range(12)),)), (fewest_ways(BESIDE), fewest_cuts(BESIDE)))
        self.gives(((tuple(range(12)),), tuple((tap,) for tap in range(12))), (fewest_ways(BEHIND), fewest_cuts(BEHIND)))


class MendingTest(Case):

    def plain(self, net, place):
        needed = needed_taps(net)
        for count in range(len(needed) + 1):
            for chosen in itertools.combinations(needed, count):
                if is_honest_left(net, [(tap, place) for tap in chosen]):
                    return chosen
        return None

    def test_plain_search(self):
        unlike = set()
        for net in SMALL + small_trees() + WIDE[:6] + [BRIDGES]:
            if needed_taps(net):
                self.gives(self.plain(net, 0), least_taken(net))
                self.gives(self.plain(net, 1), least_welded(net))
                unlike |= {len(least_taken(net)), len(least_welded(net))}
            else:
                self.refuses(net, least_taken, net)
                self.refuses(net, least_welded, net)
        self.assertLessEqual({0, 1, 2}, unlike)

    def test_edges(self):
        self.gives(((0,), (0,)), (least_taken(BRIDGE), least_welded(BRIDGE)))
        self.gives(((), ()), (least_taken(BESIDE), least_welded(BEHIND)))
        self.gives(((), ()), (least_taken(Net(2, [(0, 1)])), least_welded(Net(3, [(2, 1), (0, 2)]))))
        self.refuses(NO_WAY, least_taken, NO_WAY)

    def test_limits(self):
        """Twelve taps that matter, in nets of two hundred; with one more of these it is too much."""
        rng = random.Random(6)
        for net in WIDE:
            taps = list(net.taps) + [(rng.choice([0, 1, 2]) if net.nodes > 2 else 0, net.nodes + at)
                                     for at in range(200 - len(net.taps))]
            nodes = net.nodes + 200 - len(net.taps)
            if nodes > 201:
                taps, nodes = taps[:201 - net.nodes + len(net.taps)], 201
            wide = Net(nodes, taps)
            start = time.perf_counter()
            if needed_taps(wide):
                self.gives((needed_taps(wide),) * 2, cleared_taps(wide, least_net_list(wide)))
                self.gives((least_taken(net), least_welded(net), hiding_pairs(net)),
                           (least_taken(wide), least_welded(wide), hiding_pairs(wide)))
            self.assertLess(time.perf_counter() - start, 10)
        for net in (Net(2, [(0, 1)] * 13), ladder(5)):
            for call in (hiding_pairs, fewest_ways, fewest_cuts, least_net_list, least_taken, least_welded):
                self.fails(TooGreat, 12, call, net)
        self.gives(((), 14), (least_taken(Net(3, [(0, 1)] * 12 + [(0, 2)])), len(net_list(Net(2, [(0, 1)] * 13)))))

    def test_more_taps_never_mend(self):
        """A net that is not honest never becomes so by more taps."""
        rng = random.Random(7)
        for net in drawn_nets(8, 60, [4, 5], [5, 6]):
            if needed_taps(net) and three_paper(net) is not None:
                more = Net(net.nodes + 1, list(net.taps) + [rng.sample(range(net.nodes + 1), 2) for _ in range(2)])
                self.assertIsNotNone(three_paper(more))


if __name__ == "__main__":
    unittest.main()
