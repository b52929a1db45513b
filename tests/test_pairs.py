"""Points 7 (lot_parting) and 8: pairs of levers, trees and lots told apart."""

import itertools
import random
import unittest

from deadlevers.errors import BadLot, BadTree, NoLever, Refused
from deadlevers.pairs import bare_setting, lot_parting, pair_place, pair_word, tree_parting
from deadlevers.trees import broken_lamp, left_part, lever_place, named_tree, part_at, tree_lamp
from helpers import (ANY_VALUES, GREAT_TREES, Case, all_lots, all_trees, as_lists, broken, chain_tree, drawn_lot,
                     drawn_trees, flat_tree, lamp, levers_of, many_of, same, settings_of, some_trees)

PLACES = ((0, 0), (1, 0), (0, 1), (1, 1))


def common_place(tree, one, other):
    found = []
    for step, beside in zip(lever_place(tree, one), lever_place(tree, other)):
        if step != beside:
            break
        found.append(step)
    return tuple(found)


class PairTest(Case):

    def test_places_and_words(self):
        for tree in some_trees(4) + drawn_trees(1, 20, [6, 9, 15]):
            for one, other in itertools.permutations(range(many_of(tree)), 2):
                place = common_place(tree, one, other)
                self.gives(place, pair_place(as_lists(tree), one, other))
                self.gives(part_at(tree, place)[0], pair_word(as_lists(tree), one, other))

    def test_bare_settings(self):
        for tree in some_trees(4) + drawn_trees(2, 20, [6, 9, 15]):
            for one, other in itertools.permutations(range(many_of(tree)), 2):
                bare = bare_setting(as_lists(tree), one, other)
                self.gives(self.plain_bare(tree, one, other), bare)
                word = pair_word(tree, one, other)
                for places in PLACES:
                    setting = self.put(bare, (one, other), places)
                    self.assertEqual(lamp(tree, setting), min(places) if word == "all" else max(places))

    def plain_bare(self, tree, one, other):
        """As the point tells it: beside both ways all levers are up for "all", down for "any"."""
        setting = [0] * many_of(tree)

        def fill(part):
            for inner in part[1]:
                levers = levers_of(inner)
                if one in levers or other in levers:
                    if not isinstance(inner, int):
                        fill(inner)
                else:
                    for lever in levers:
                        setting[lever] = 1 if part[0] == "all" else 0

        fill(tree)
        return tuple(setting)

    def put(self, setting, levers, places):
        changed = list(setting)
        for lever, place in zip(levers, places):
            changed[lever] = place
        return tuple(changed)

    def test_errors(self):
        tree = flat_tree(3)
        for call in (pair_place, pair_word, bare_setting):
            self.fails(BadTree, 0, call, None, None, None)
            self.fails(BadTree, 1, call, 1, 0, 1)
            self.fails(NoLever, 3, call, tree, 3, -1)
            self.fails(NoLever, -1, call, tree, 2, -1)
            self.fails(Refused, 1, call, tree, 1, 1)
            self.fails(Refused, 0, call, 0, 0, 0)
            for value in ANY_VALUES:
                if not any(same(value, lever) for lever in (0, 1, 2)):
                    self.fails(NoLever, value, call, tree, value, None)
                    self.fails(NoLever, value, call, tree, 0, value)

    def test_great_trees(self):
        for tree in GREAT_TREES:
            self.gives(common_place(tree, 3, 199), pair_place(tree, 3, 199))
            bare = bare_setting(tree, 0, 198)
            self.gives(self.plain_bare(tree, 0, 198), bare)


class TreePartingTest(Case):

    def plain_parting(self, tree, other):
        for one in range(many_of(tree)):
            for lever in range(one + 1, many_of(tree)):
                if pair_word(tree, one, lever) != pair_word(other, one, lever):
                    bare = bare_setting(tree, one, lever)
                    for places in PLACES:
                        setting = list(bare)
                        setting[one], setting[lever] = places
                        if lamp(tree, setting) != lamp(other, setting):
                            return (one, lever, tuple(setting))
        return None

    def test_small_trees(self):
        for many in (1, 2, 3, 4):
            for tree, other in itertools.product(all_trees(many), repeat=2):
                found = tree_parting(as_lists(tree), as_lists(other))
                self.gives(self.plain_parting(tree, other), found)
                alike = all(lamp(tree, at) == lamp(other, at) for at in settings_of(many))
                self.assertEqual(found is None, alike)
                self.assertEqual(found is None, tree == other)

    def test_greater_trees(self):
        rng = random.Random(4)
        for tree in drawn_trees(9, 30, [7, 12]):
            names = list(range(many_of(tree)))
            one, other = rng.sample(names, 2)
            names[one], names[other] = other, one
            renamed = named_tree(tree, names)
            self.gives(self.plain_parting(tree, renamed), tree_parting(tree, renamed))

    def test_limits(self):
        self.gives(None, tree_parting(GREAT_TREES[0], as_lists(GREAT_TREES[0])))
        for tree, other in itertools.permutations(GREAT_TREES[:5], 2):
            one, lever, setting = tree_parting(tree, other)
            self.assertNotEqual(pair_word(tree, one, lever), pair_word(other, one, lever))
            self.assertNotEqual(lamp(tree, setting), lamp(other, setting))

    def test_last_pair(self):
        tree = chain_tree(200)
        other = named_tree(tree, list(range(197)) + [198, 197, 199])
        self.gives((197, 199), tree_parting(tree, other)[:2])

    def test_errors(self):
        self.fails(BadTree, 0, tree_parting, None, None)
        self.fails(BadTree, 1, tree_parting, flat_tree(2), 1)
        for other in (0, flat_tree(3), ["any", [0, 1, 2]]):
            self.refuses(other, tree_parting, flat_tree(2), other)


class LotPartingTest(Case):

    def holds_parting(self, tree, lot, other):
        settings = settings_of(many_of(tree))
        unlike = [at for at in settings if lamp(tree, broken(at, lot)) != lamp(tree, broken(at, other))]
        found = lot_parting(as_lists(tree), as_lists(lot), as_lists(other))
        self.assertEqual(found is None, left_part(tree, lot) == left_part(tree, other))
        if unlike:
            self.assertIn(found, unlike)
            self.gives(tuple(found), found)
        else:
            self.assertIsNone(found)

    def test_small_trees(self):
        for tree in some_trees(3) + drawn_trees(5, 6, [4]):
            for lot, other in itertools.product(all_lots(many_of(tree)), repeat=2):
                self.holds_parting(tree, lot, other)

    def test_greater_trees(self):
        rng = random.Random(11)
        for tree in drawn_trees(6, 60, [5, 6, 7, 8]):
            for _ in range(20):
                self.holds_parting(tree, drawn_lot(rng, many_of(tree)), drawn_lot(rng, many_of(tree)))

    def test_words_alone_are_unlike(self):
        # The same levers are left, all of them within other knots.
        tree = ("all", (("any", (0, ("all", (1, 4)))), ("any", (2, ("all", (3, 5))))))
        self.holds_parting(tree, [(4, 1)], [(4, 1), (5, 1)])
        tree = ("any", (("all", (0, ("any", (1, 2)))), 3))
        self.holds_parting(tree, [(2, 0)], [(2, 0), (3, 0)])

    def test_limits(self):
        rng = random.Random(12)
        for tree in GREAT_TREES:
            lot, other = drawn_lot(rng, 200)[:3], ((7, 0), (150, 1))
            self.assertIsNone(lot_parting(tree, lot, as_lists(lot)))
            found = lot_parting(tree, lot, other)
            self.assertEqual(found is None, left_part(tree, lot) == left_part(tree, other))
            if found is not None:
                self.assertNotEqual(broken_lamp(tree, lot, found), broken_lamp(tree, other, found))
            self.assertIn(tree_lamp(tree, (1,) * 200), (0, 1))

    def test_errors(self):
        self.fails(BadTree, 0, lot_parting, None, None, None)
        self.fails(BadLot, -1, lot_parting, flat_tree(2), (), None)
        self.fails(BadLot, 1, lot_parting, flat_tree(2), ((0, 1), (0, 1)), None)
        self.fails(BadLot, 0, lot_parting, flat_tree(2), ((0, 1),), [[2, 1]])
        for value in ANY_VALUES:
            if not isinstance(value, (list, tuple)) or len(value) == 0:
                self.fails(BadLot, -1, lot_parting, flat_tree(2), value, ((0, 0),))
                self.fails(BadLot, -1, lot_parting, flat_tree(2), ((0, 0),), value)


if __name__ == "__main__":
    unittest.main()
