"""Points 61 and 62: nets."""

import inspect
import random
import unittest

from deadlevers.errors import BadList, BadLot, BadNet, BadSetting, BadTree, NoLever, TooGreat
from deadlevers.nets import (Net, cleared_taps, cut_through, left_net, needed_taps, net_broken, net_hung, net_lamp,
                             net_table, tree_net, way_through)
from helpers import (ANY_VALUES, GREAT_TREES, Case, as_lists, broken, drawn_list, drawn_lot, drawn_setting, drawn_trees,
                     has_only_tuples, lamp, many_of, numbered_settings, same, settings_of, some_trees)
from net_helpers import BRIDGE, PlainNet, all_ways, drawn_net, drawn_nets, ladder, least_cuts, net_ways_lamp

NETS = drawn_nets(1, 120, (2, 3, 4, 5, 6), range(1, 9)) + [BRIDGE, ladder(3), Net(2, [(1, 0)]), Net(3, [(0, 2), (2, 0)])]
RNG = random.Random(2)
GREAT_NETS = [tree_net(tree) for tree in GREAT_TREES] + [drawn_net(RNG, nodes, 200) for nodes in (14, 60, 130, 201)]


class NetTest(Case):

    def test_attributes(self):
        taps = [[0, 2], (2, 1), [1, 0]]
        net = Net(3, taps)
        taps[0][0] = 1
        taps.append((0, 1))
        self.gives((3, ((0, 2), (2, 1), (1, 0))), (net.nodes, net.taps))
        self.assertEqual(list(inspect.signature(Net).parameters), ["nodes", "taps"])
        self.assertTrue(net == Net(nodes=3, taps=((0, 2), (2, 1), (1, 0))))
        for other in (Net(4, net.taps), Net(3, net.taps[:2]), Net(3, ((2, 0),) + net.taps[1:]), (3, net.taps), None):
            self.assertFalse(net == other)
        Net(201, [(0, 200)] * 200)

    def test_errors(self):
        for value in ANY_VALUES:
            is_number = isinstance(value, int) and not isinstance(value, bool) and 2 <= value <= 201
            self.fails(BadNet, 0 if is_number else -1, Net, value, [None])
            if not isinstance(value, (list, tuple)) or not 1 <= len(value) <= 200:
                self.fails(BadNet, -1, Net, 3, value)
            if not any(same(value, kind(pair)) for kind in (list, tuple) for pair in ((0, 1), (1, 0))):
                self.fails(BadNet, 1, Net, 3, [(0, 1), value, None])
            if not same(value, 0) and not same(value, 2):
                self.fails(BadNet, 0, Net, 3, ((value, 1),))
        for nodes in (0, 1, 202, -2, True, 2.0, "2"):
            self.fails(BadNet, -1, Net, nodes, [(0, 1)])
        for tap in ((0, 0), (0, 3), (-1, 0), (0,), (0, 1, 2), (0, True), [0, "1"], 1):
            self.fails(BadNet, 2, Net, 3, [(0, 1), (1, 2), tap])
        self.fails(BadNet, -1, Net, 3, [(0, 1)] * 201)
        self.fails(BadNet, -1, Net, 3, [])

    def test_lamps(self):
        rng = random.Random(3)
        for net in NETS:
            plain = PlainNet(net)
            table = net_table(net)
            self.gives(tuple(plain.lamp[at] for at in numbered_settings(plain.many)), table.lamps)
            for at in plain.settings[::5] + plain.settings[-1:]:
                lot = drawn_lot(rng, plain.many)
                self.gives(plain.lamp[at], net_lamp(net, list(at)))
                self.gives(plain.hung[at], net_hung(net, list(at)))
                self.gives(plain.lamp[broken(at, lot)], net_broken(net, as_lists(lot), list(at)))
            for count in (0, 1, 4):
                settings = drawn_list(rng, plain.many, count)
                cleared = plain.cleared(settings)
                worth = tuple(tuple(tap for tap in range(plain.many) if (tap, place) in cleared) for place in (1, 0))
                self.gives(worth, cleared_taps(net, as_lists(settings)))

    def test_examples(self):
        self.gives((1, 2, 4), net_hung(BRIDGE, (1, 0, 0, 1, 0)))
        self.gives(((0, 1, 3, 1), ((), ())), (net_table(Net(2, [(0, 1)])).lamps + (3, 1), cleared_taps(BRIDGE, ())))
        self.gives(((), 0), (net_hung(Net(3, [(0, 2)]), (1,)), net_lamp(Net(3, [(0, 2)]), (1,))))

    def test_trees(self):
        for tree in some_trees(4) + drawn_trees(4, 15, [5, 6, 7]):
            net = tree_net(as_lists(tree))
            self.gives(many_of(tree), len(net.taps))
            for at in settings_of(many_of(tree)):
                self.gives(lamp(tree, at), net_lamp(net, at))
        rng = random.Random(5)
        for tree in GREAT_TREES:
            net = tree_net(tree)
            for _ in range(20):
                at = tuple(int(rng.random() < 0.8) for _ in range(200))
                self.gives(lamp(tree, at), net_lamp(net, at))
        self.fails(BadTree, 0, tree_net, ("all", (0,)))
        self.fails(BadTree, 1, tree_net, ("all", (1, 0)))

    def test_great_nets(self):
        rng = random.Random(6)
        for net in GREAT_NETS:
            settings = drawn_list(rng, 200, 400)
            up, down = cleared_taps(net, settings)
            hung = [net_hung(net, at) for at in settings[:8]]
            self.assertTrue(all(tap in (up if at[tap] else down) for at, found in zip(settings, hung) for tap in found))
            self.assertTrue(set(up + down) <= set(needed_taps(net)))
            self.fails(TooGreat, 10, net_table, net)
        self.fails(TooGreat, 10, net_table, Net(2, [(0, 1)] * 11))
        self.gives(1024, len(net_table(Net(2, [(0, 1)] * 10)).lamps))

    def test_wrong_settings_and_lots(self):
        for value in ANY_VALUES:
            if same(value, (0, 1, 0, 1, 1)):
                continue
            for call, more in ((net_lamp, ()), (net_hung, ()), (net_broken, ([(0, 1)],))):
                with self.assertRaises(BadSetting):
                    call(BRIDGE, *more, value)
            if not (isinstance(value, (list, tuple)) and len(value) <= 400):
                self.fails(BadList, -1, cleared_taps, BRIDGE, value)
            self.fails(BadList, 1, cleared_taps, BRIDGE, [(0, 0, 0, 0, 0), value])
            for call, more in ((net_broken, (None,)), (left_net, ())):
                self.fails(BadLot, 1, call, BRIDGE, [(0, 0), value if not same(value, (1, 0)) else None], *more)
                if not isinstance(value, (list, tuple)):
                    self.fails(BadLot, -1, call, BRIDGE, value, *more)
            if not any(same(value, tap) for tap in range(5)):
                for call in (way_through, cut_through):
                    self.fails(NoLever, value, call, BRIDGE, value)
        for call, more in ((net_broken, (None,)), (left_net, ())):
            self.fails(BadLot, -1, call, BRIDGE, (), *more)
            self.fails(BadLot, 1, call, BRIDGE, [(2, 0), (2, 1)], *more)
            self.fails(BadLot, 0, call, BRIDGE, [(5, 1)], *more)
        self.fails(BadLot, -1, net_broken, BRIDGE, 0, (0, 0, 0, 0, 2))
        self.fails(BadSetting, 4, net_broken, BRIDGE, [(0, 1)], (0, 0, 0, 0, 2))
        self.fails(BadList, -1, cleared_taps, BRIDGE, [(0, 0, 0, 0, 0)] * 401)
        self.fails(NoLever, 5, way_through, BRIDGE, 5)


class WayTest(Case):

    def test_plain_search(self):
        for net in NETS:
            ways, cuts = all_ways(net), least_cuts(net)
            needed = tuple(sorted({tap for way in ways for tap in way}))
            self.gives(needed, needed_taps(net))
            for tap in range(len(net.taps)):
                way, cut = way_through(net, tap), cut_through(net, tap)
                if tap in needed:
                    self.assertTrue(any(same(way, each) for each in ways) and tap in way, (net.taps, tap, way))
                    self.assertTrue(any(same(cut, each) for each in cuts) and tap in cut, (net.taps, tap, cut))
                else:
                    self.gives((None, None), (way, cut))

    def test_great_nets(self):
        for net in GREAT_NETS:
            needed = needed_taps(net)
            for tap in needed[:2] + needed[-2:]:
                way, cut = way_through(net, tap), cut_through(net, tap)
                setting = [int(other in way) for other in range(200)]
                self.gives((1, tuple(sorted(way))), (net_lamp(net, setting), net_hung(net, setting)))
                self.assertIn(tap, way)
                self.assertEqual(self.last_node(net, way), 1)
                setting = [int(other not in cut) for other in range(200)]
                self.gives((0, cut), (net_lamp(net, setting), net_hung(net, setting)))
                self.assertIn(tap, cut)
            left = [tap for tap in range(200) if tap not in needed]
            self.gives([None] * len(left[:3]), [way_through(net, tap) for tap in left[:3]])

    def last_node(self, net, way):
        node = 0
        for tap in way:
            self.assertIn(node, net.taps[tap])
            node = sum(net.taps[tap]) - node
        return node

    def test_edges(self):
        self.gives(((0,), (0,), (0,)), (way_through(Net(2, [(1, 0)]), 0), cut_through(Net(2, [(1, 0)]), 0),
                                        needed_taps(Net(2, [(0, 1)]))))
        dead = Net(4, [(0, 2), (2, 3), (3, 0)])
        self.gives(((), None, None), (needed_taps(dead), way_through(dead, 0), cut_through(dead, 1)))
        # A tap side by side with another one, one that hangs at a node alone, and a loop behind a node.
        side = Net(5, [(0, 2), (0, 2), (2, 1), (2, 3), (3, 4), (4, 2)])
        self.gives((0, 1, 2), needed_taps(side))
        self.gives(((1, 2), (0, 1), (2,)), (way_through(side, 1), cut_through(side, 1), cut_through(side, 2)))


class LeftTest(Case):

    def test_plain_search(self):
        rng = random.Random(7)
        kinds = set()
        for net in NETS:
            plain = PlainNet(net)
            for _ in range(6):
                lot = drawn_lot(rng, plain.many)
                found = left_net(net, as_lists(lot))
                self.assertTrue(has_only_tuples(found))
                lamps = {at: plain.lamp[broken(at, lot)] for at in plain.settings}
                matter = tuple(tap for tap in range(plain.many)
                               if any(lamps[at] != lamps[broken(at, [(tap, 1 - at[tap])])] for at in plain.settings))
                kinds.add(found[:2] if found[0] == "lamp" else found[0])
                if not matter:
                    self.gives(("lamp", lamps[plain.settings[0]]), found)
                    continue
                self.gives(("net", matter), (found[0], found[2]))
                self.gives(found, ("net", self.plain_left(net, lot, matter), matter))
                ways = all_ways(found[1])
                for at in plain.settings:
                    self.assertEqual(net_ways_lamp(ways, [at[tap] for tap in matter]), lamps[at])
        self.assertEqual(kinds, {("lamp", 0), ("lamp", 1), "net"})

    def plain_left(self, net, lot, matter):
        """As the point tells it."""
        names = list(range(net.nodes))
        for tap, place in lot:
            if place == 1:
                one, other = sorted(names[node] for node in net.taps[tap])
                names = [one if name == other else name for name in names]
        pairs = [tuple(names[node] for node in net.taps[tap]) for tap in matter]
        order = sorted({node for pair in pairs for node in pair})
        return Net(len(order), [tuple(map(order.index, pair)) for pair in pairs])

    def test_examples(self):
        self.gives((1, 2, 3, 4), left_net(BRIDGE, [(0, 1)])[2])
        self.gives(("net", Net(3, [(0, 2), (0, 1), (2, 1), (0, 2)]), (1, 2, 3, 4)), left_net(BRIDGE, [(0, 1)]))
        self.gives(("net", Net(3, [(2, 0), (1, 2)]), (0, 1)), left_net(Net(9, [(7, 0), (1, 7), (3, 4)]), [(2, 1)]))
        self.gives((("lamp", 1), ("lamp", 0)), (left_net(BRIDGE, [(0, 1), (2, 1)]), left_net(BRIDGE, [(0, 0), (1, 0)])))

    def test_great_nets(self):
        rng = random.Random(8)
        for net in GREAT_NETS:
            lot = tuple((tap, rng.randint(0, 1)) for tap in sorted(rng.sample(range(200), 12)))
            found = left_net(net, lot)
            for _ in range(4):
                at = drawn_setting(rng, 200)
                worth = net_broken(net, lot, at)
                if found[0] == "lamp":
                    self.gives(found[1], worth)
                else:
                    self.gives(net_lamp(found[1], [at[tap] for tap in found[2]]), worth)


if __name__ == "__main__":
    unittest.main()
