"""Points 63 and 64: which nets are trees, and the three nets in those that are not honest."""

import itertools
import random
import unittest

from deadlevers.court import is_honest
from deadlevers.joining import least_dead, net_holds, net_paper, net_tree, three_holds, three_paper
from deadlevers.nets import Net, needed_taps, net_lamp, tree_net
from helpers import (ANY_VALUES, GREAT_TREES, Case, all_lots, as_lists, broken, drawn_setting, drawn_trees, has_only_tuples,
                     lamp, many_of, ordered, other_word, same, settings_of, some_trees)
from net_helpers import BRIDGE, drawn_net, drawn_nets, ladder, net_ways_lamp, plain_of

NETS = drawn_nets(1, 400, (2, 3, 4, 5, 6), range(1, 9)) + [BRIDGE, ladder(3), Net(2, [(1, 0)])]
ROW = ("all", (("any", (("all", (0, 1)), 2)), ("any", (("all", (3, 4)), 5))))
SIDE = ("any", (("all", (("any", (0, 1)), 2)), ("all", (("any", (3, 4)), 5))))
# Bridges with taps side by side, behind each other, and without any way beside them.
GRID = Net(6, [(0, 2), (2, 4), (4, 1), (0, 3), (3, 5), (5, 1), (2, 3), (4, 5)])
THICK = Net(7, [(0, 2), (2, 0), (0, 3), (2, 4), (4, 1), (3, 1), (3, 2), (5, 6), (6, 2)])
# The bridge's letters, and a net in which taps that do not matter are left aside.
LOOSE = Net(4, [(0, 2), (2, 1), (3, 2), (0, 1)])


def plain_names(net, lot):
    names = list(range(net.nodes))
    for tap, place in lot:
        if place == 1:
            one, other = sorted(names[node] for node in net.taps[tap])
            names = [one if name == other else name for name in names]
    return names


def left_taps(net, lot):
    """The taps that matter with a lot dead, by all settings."""
    plain = plain_of(net.nodes, net.taps)
    lamps = {at: plain.lamp[broken(at, lot)] for at in plain.settings}
    return tuple(tap for tap in range(plain.many)
                 if any(lamps[at] != lamps[broken(at, [(tap, 1 - at[tap])])] for at in plain.settings))


def plain_bridge(net, lot, taps):
    if len(taps) != 5 or tuple(sorted(taps)) != left_taps(net, lot):
        return False
    names = plain_names(net, lot)
    a, b, c, d, m = [{names[node] for node in net.taps[tap]} for tap in taps]
    x, y = a - {0}, b - {0}
    return 0 in a and 0 in b and len(x) == len(y) == 1 and x != y and c == x | {1} and d == y | {1} and m == x | y


def plain_fork(net, word, lot, taps):
    if len(taps) != 6 or tuple(sorted(taps)) != left_taps(net, lot):
        return False
    a, b, c, d, e, g = taps
    inner = other_word(word)
    tree = (word, ((inner, ((word, (a, b)), c)), (inner, ((word, (d, e)), g))))
    plain = plain_of(net.nodes, net.taps)
    return all(lamp(tree, at) == plain.lamp[broken(at, lot)] for at in plain.settings)


def plain_tree_holds(net, tree, taps, steps):
    """Join taps as the point tells it."""
    plain = plain_of(net.nodes, net.taps)
    if tuple(taps) != plain.needed or not taps:
        return False
    ends = {at: set(net.taps[tap]) for at, tap in enumerate(taps)}
    parts = {at: at for at in ends}
    for word, one, other in steps:
        if one not in ends or other not in ends or one >= other:
            return False
        both = ends[one] & ends[other]
        if word == "any" and ends[one] == ends[other]:
            joined = ends[one]
        elif word == "all" and any(sum(node in pair for pair in ends.values()) == 2 for node in both - {0, 1}):
            node = [node for node in both - {0, 1} if sum(node in pair for pair in ends.values()) == 2][0]
            joined = (ends[one] | ends[other]) - {node}
        else:
            return False
        ends[one] = joined
        inner = [part[1] if isinstance(part, tuple) and part[0] == word else (part,) for part in (parts[one], parts[other])]
        parts[one] = (word, inner[0] + inner[1])
        del ends[other]
    return len(ends) == 1 and ordered(parts[list(ends)[0]]) == tree


class TreeTest(Case):

    def test_plain_search(self):
        kinds = set()
        for net in NETS:
            plain = plain_of(net.nodes, net.taps)
            paper = net_paper(net)
            kinds.add(paper[0])
            self.assertTrue(has_only_tuples(paper))
            self.gives(True, net_holds(net, paper))
            self.gives(True, net_holds(net, as_lists(paper)))
            found = net_tree(net)
            self.gives(paper[0] == "tree", found is not None)
            self.gives(paper[0] == "lamp", not plain.needed)
            if paper[0] == "tree":
                self.gives(paper[1:3], found)
                self.gives(plain.needed, found[1])
                self.assertTrue(plain_tree_holds(net, *paper[1:]))
                for at in plain.settings:
                    self.assertEqual(lamp(found[0], [at[tap] for tap in found[1]]), plain.lamp[at])
            elif paper[0] == "bridge":
                self.assertTrue(plain_bridge(net, *paper[1:]))
            else:
                self.gives(("lamp", 0), paper)
        self.assertEqual(kinds, {"lamp", "tree", "bridge"})

    def test_one_tree(self):
        rng = random.Random(2)
        for tree in some_trees(4) + drawn_trees(3, 30, [6, 9, 14]) + list(GREAT_TREES):
            net = tree_net(tree)
            self.gives((tree, tuple(range(many_of(tree)))), net_tree(net))
            paper = net_paper(net)
            self.gives(("tree", tree, True), (paper[0], paper[1], net_holds(net, as_lists(paper))))
            # Nodes and taps in another order, and some more taps that do not matter.
            names = [0, 1] + rng.sample(range(2, net.nodes), net.nodes - 2)
            order = rng.sample(range(len(net.taps)), len(net.taps))
            taps = [[names[node] for node in net.taps[tap][::rng.choice([1, -1])]] for tap in order]
            other = Net(net.nodes, taps)
            told = net_tree(other)
            at = drawn_setting(rng, len(taps))
            self.gives(lamp(told[0], at), net_lamp(other, at))

    def test_examples(self):
        self.gives((("bridge", (), (0, 1, 2, 3, 4)), 2), (net_paper(BRIDGE), least_dead(BRIDGE)))
        self.gives((("any", (("all", (0, 1)), 2)), (0, 1, 3)), net_tree(LOOSE))
        self.gives((None, ("lamp", 0)), (net_tree(Net(3, [(0, 2)])), net_paper(Net(3, [(0, 2)]))))
        self.gives(("tree", 0, (1,), ()), net_paper(Net(3, [(0, 2), (1, 0)])))
        self.gives(("any", (0, 1, 2)), net_tree(Net(2, [(0, 1), (1, 0), (0, 1)]))[0])

    def test_limits(self):
        rng = random.Random(4)
        bridges = 0
        for net in [drawn_net(rng, nodes, 24) for nodes in range(6, 20)] + [ladder(8), Net(4, BRIDGE.taps * 4 + BRIDGE.taps[:4])]:
            paper = net_paper(net)
            bridges += paper[0] == "bridge"
            self.gives(True, net_holds(net, paper))
            three = three_paper(net)
            self.gives(three is not None, three_holds(net, three))
            if paper[0] == "bridge":
                self.gives(("bridge", 2), (three[0], least_dead(net)))
        self.assertGreater(bridges, 8)


class NetHoldsTest(Case):

    def test_any_joinings(self):
        rng = random.Random(5)
        nets = [net for net in NETS if net_tree(net) is not None and 3 <= len(needed_taps(net)) <= 6][:40]
        holding = 0
        for net in nets:
            _, tree, taps, steps = net_paper(net)
            for _ in range(30):
                told = list(steps)
                if rng.random() < 0.5:
                    rng.shuffle(told)
                else:
                    at = rng.randrange(len(told))
                    told[at] = (rng.choice(["all", "any"]), rng.randrange(len(taps)), rng.randrange(len(taps)))
                worth = plain_tree_holds(net, tree, taps, told)
                holding += worth
                self.gives(worth, net_holds(net, ["tree", as_lists(tree), list(taps), as_lists(told)]))
        self.assertGreater(holding, 50)

    def test_bent_trees(self):
        net = LOOSE
        tree, taps, steps = net_paper(net)[1:]
        self.gives(True, net_holds(net, ("tree", tree, taps, steps)))
        for value in (("tree", tree, taps), ("tree", tree, taps, steps, 0), ("Tree", tree, taps, steps),
                      ("tree", ("any", (0, ("all", (1, 2)))), taps, steps), ("tree", tree, (0, 1, 2), steps),
                      ("tree", tree, (1, 0, 3), steps), ("tree", tree, (False, 1, 3), steps), ("tree", tree, taps, steps[:1]),
                      ("tree", tree, taps, steps + (("any", 0, 1),)), ("tree", tree, taps, steps[::-1]), ("lamp", 0),
                      ("tree", tree, taps, (("all", 1, 0),) + steps[1:]), ("tree", tree, taps, (("any", 0, 1),) + steps[1:]),
                      ("tree", tree, taps, (("all", 0, True),) + steps[1:]), ("tree", tree, taps, (("all", 0),) + steps[1:]),
                      ("tree", ("any", (2, ("all", (0, 1)))), taps, steps), ("bridge", (), (0, 1, 2, 3, 3))):
            self.gives(False, net_holds(net, value))
            self.gives(False, net_holds(net, as_lists(value)))

    def test_all_bridges(self):
        for net in (BRIDGE, THICK):
            paper = net_paper(net)
            five = paper[2]
            holding = 0
            for taps in itertools.permutations(five):
                worth = plain_bridge(net, paper[1], taps)
                holding += worth
                self.gives(worth, net_holds(net, ("bridge", paper[1], taps)))
                self.gives(worth, three_holds(net, ["bridge", as_lists(paper[1]), list(taps)]))
            self.gives(2, holding)

    def test_five_taps_that_make_no_bridge(self):
        taps = tuple(range(5))
        for net in (Net(4, [(0, 2), (2, 3), (3, 1), (3, 1), (0, 2)]), Net(4, [(0, 1), (0, 2), (2, 1), (0, 3), (3, 1)]),
                    Net(3, [(0, 2), (0, 2), (0, 2), (2, 1), (2, 1)]), Net(6, [(0, 2), (2, 3), (3, 4), (4, 5), (5, 1)]),
                    Net(2, [(0, 1)] * 5), Net(4, [(0, 2), (2, 1), (0, 3), (3, 1), (0, 3)])):
            for told in (taps, (1, 0, 3, 2, 4), (0, 2, 1, 3, 4)):
                self.gives(False, net_holds(net, ("bridge", (), told)))
                self.gives(False, three_holds(net, ("bridge", (), told)))
        dead = Net(3, [(0, 2)])
        for value in (("tree", 0, (0,), ()), ("tree", 0, (), ()), ("bridge", (), ()), ("bridge", (), taps)):
            self.gives(False, net_holds(dead, value))

    def test_bent_lots(self):
        for net in (GRID, THICK):
            _, lot, taps = net_paper(net)
            holding = 0
            for at in range(len(lot)):
                for told in (lot[:at] + lot[at + 1:], lot[:at] + ((lot[at][0], 1 - lot[at][1]),) + lot[at + 1:]):
                    worth = plain_bridge(net, told, taps)
                    holding += worth
                    self.gives(worth, net_holds(net, ("bridge", told, taps)))
                    self.gives(worth, three_holds(net, ("bridge", told, taps)))
            # Two taps of the thick one lie aside: they may be stuck in any place, or be left out.
            self.gives(net == THICK, holding > 3)
            for told in (lot[::-1], lot + lot[-1:], lot + ((taps[0], 1),), ((True, 0),) + lot[1:], None, 0, "", ((0,),)):
                self.gives(False, net_holds(net, ("bridge", told, taps)))

    def test_any_value(self):
        for value in ANY_VALUES:
            for net in (BRIDGE, LOOSE, Net(3, [(0, 2)]), GRID):
                self.gives(False, net_holds(net, value))
                self.gives(False, three_holds(net, value))
                for kind in ("tree", "bridge", "row", "side"):
                    self.gives(False, net_holds(net, (kind, value, value, value)))
                    self.gives(False, net_holds(net, (kind, value, value)))
                    self.gives(False, three_holds(net, (kind, value, value)))
                self.gives(same(value, 0) and net.nodes == 3, net_holds(net, ["lamp", value]))
                self.gives(False, net_holds(net, (value, 0)))
            empty = same(value, ()) or same(value, [])
            self.gives(empty, net_holds(BRIDGE, ("bridge", value, (0, 1, 2, 3, 4))))
            self.gives(False, net_holds(BRIDGE, ("bridge", (), value)))
            tree, taps, steps = net_paper(LOOSE)[1:]
            self.gives(False, net_holds(LOOSE, ("tree", value, taps, steps)))
            self.gives(False, net_holds(LOOSE, ("tree", tree, value, steps)))
            self.gives(False, net_holds(LOOSE, ("tree", tree, taps, value)))
            self.gives(False, net_holds(LOOSE, (value, tree, taps, steps)))
        self.gives(False, net_holds(Net(3, [(0, 2)]), ("lamp", False)))
        self.gives(False, net_holds(Net(3, [(0, 2)]), ("lamp", 1)))


class ThreeTest(Case):

    def test_plain_search(self):
        found = set()
        nets = [net for net in NETS if len(net.taps) < 7][:160] + [net for net in NETS if len(net.taps) == 7][:12] + [BRIDGE, tree_net(ROW), tree_net(SIDE), tree_net(("any", (0, ("all", (1, 2)))))]
        for net in nets:
            plain = plain_of(net.nodes, net.taps)
            paper = three_paper(net)
            found.add(paper and paper[0])
            let = plain.let_lots()
            self.gives(not let, paper is None)
            self.gives(min(map(len, let)) if let else None, least_dead(net))
            if paper is not None:
                self.gives(True, three_holds(net, paper))
                self.gives(True, three_holds(net, as_lists(paper)))
                if paper[0] == "bridge":
                    self.assertTrue(plain_bridge(net, *paper[1:]))
                else:
                    self.assertTrue(plain_fork(net, "all" if paper[0] == "row" else "any", *paper[1:]))
        self.assertEqual(found, {None, "bridge", "row", "side"})

    def test_trees(self):
        found = set()
        for tree in drawn_trees(6, 40, [7, 8, 9]) + [ROW, SIDE]:
            net = tree_net(tree)
            paper = three_paper(net)
            found.add(paper and paper[0])
            self.gives((is_honest(tree), None if is_honest(tree) else 4), (paper is None, least_dead(net)))
            if paper is not None:
                self.assertTrue(plain_fork(net, "all" if paper[0] == "row" else "any", *paper[1:]))
                self.gives(True, three_holds(net, as_lists(paper)))
        self.assertEqual(found, {None, "row", "side"})
        for tree in GREAT_TREES:
            paper = three_paper(tree_net(tree))
            self.gives((is_honest(tree), not is_honest(tree)), (paper is None, three_holds(tree_net(tree), paper)))

    def test_all_orders_of_six_taps(self):
        for tree, word in ((ROW, "row"), (SIDE, "side")):
            net = tree_net(tree)
            self.gives((word, ()), three_paper(net)[:2])
            holding = 0
            for taps in itertools.permutations(range(6)):
                worth = plain_fork(net, tree[0], (), taps) if set(taps[:3]) in ({0, 1, 2}, {3, 4, 5}) else False
                holding += worth
                self.gives(worth, three_holds(net, (word, (), taps)))
            self.gives(8, holding)
            self.gives(False, three_holds(net, ("side" if word == "row" else "row", (), tuple(range(6)))))
            for value in ((word, ()), (word, (), tuple(range(6)), 0), (word, (), tuple(range(5))), (word, (), (0, 1, 2, 3, 4, 4)),
                          (word, ((0, 1),), tuple(range(6))), (word, (), tuple(range(1, 7))), None, ()):
                self.gives(False, three_holds(net, value))

    def test_bent_lots(self):
        tree = ("all", (0, ("any", (1, ("all", (2, 3, 4)))), ("any", (5, 6, ("all", (7, ("any", (8, 9))))))))
        net = tree_net(tree)
        kind, lot, taps = three_paper(net)
        holding = 0
        for at in range(len(lot)):
            for told in (lot[:at] + lot[at + 1:], lot[:at] + ((lot[at][0], 1 - lot[at][1]),) + lot[at + 1:]):
                self.gives(plain_fork(net, "all", told, taps), three_holds(net, (kind, told, taps)))
        others = [other for other in all_lots(10) if len(other) == 4][::59]
        for told in others:
            left = left_taps(net, told)
            if len(left) == 6:
                for chosen in list(itertools.permutations(left))[::37]:
                    worth = plain_fork(net, "all", told, chosen)
                    holding += worth
                    self.gives(worth, three_holds(net, ("row", told, chosen)))
        self.gives(("row", True), (kind, three_holds(net, (kind, lot, taps))))

    def test_no_way(self):
        for net in (Net(3, [(0, 2)]), Net(4, [(2, 3)])):
            self.gives((None, None, False), (three_paper(net), least_dead(net), three_holds(net, None)))

    def test_honest_exactly_if_none_of_the_three_is_left(self):
        """No lot at all leaves one of the three of an honest net."""
        for net in drawn_nets(7, 25, (3, 4, 5), (6,)):
            if three_paper(net) is None and len(needed_taps(net)) > 5:
                for lot in [()] + all_lots(len(net.taps))[::5]:
                    left = left_taps(net, lot)
                    if len(left) == 5:
                        self.assertFalse(any(plain_bridge(net, lot, taps) for taps in itertools.permutations(left)))

    def test_lamp_by_ways(self):
        for net in (GRID, THICK):
            plain = plain_of(net.nodes, net.taps)
            for at in settings_of(plain.many)[::7]:
                self.gives(net_ways_lamp(plain.ways, at), net_lamp(net, at))


if __name__ == "__main__":
    unittest.main()
