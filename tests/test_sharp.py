"""Points 46 to 48: sharp lots and least error sets."""

import random
import unittest

from deadlevers.errors import BadLot, BadTree, Refused
from deadlevers.meetings import is_sharp, spare_lot
from deadlevers.sharp import (catch_number, error_lot, error_number, error_sizes, missed_lot, sharp_lot, sharp_number,
                              sharp_place, sharp_sizes)
from deadlevers.trees import tree_knots
from helpers import (ANY_VALUES, GREAT_TREES, Case, as_lists, broken, chain_tree, drawn_part, drawn_trees, flat_tree, lamp,
                     many_of, ordered, other_word, pairs_tree, plain_cleared, same, some_trees)
from lot_helpers import Lots
from test_meetings import HIDE, LONE, LOT, MIRROR, NEST, WIDE, plain_cleared_great

SEARCHED = [Lots(tree) for tree in some_trees(4) + drawn_trees(1, 6, [5, 6]) + [HIDE, MIRROR, LONE, NEST]]
# Flat knots and deeper ones of both words beside each other.
MIXED = [Lots(tree) for tree in [WIDE] + [tree for tree in drawn_trees(2, 60, [7]) if sharp_number(tree)][:3]]


def wide_tree(rng, parts, levers):
    """A knot of so many parts, each of so many levers at most."""
    sizes = [rng.randint(1, levers) for _ in range(parts)]
    numbers = list(range(sum(sizes)))
    rng.shuffle(numbers)
    word = rng.choice(["all", "any"])
    found = []
    for size in sizes:
        found.append(drawn_part(rng, [numbers.pop() for _ in range(size)], other_word(word)))
    return ordered((word, tuple(found)))


class SizesTest(Case):

    def test_plain_search(self):
        for lots in SEARCHED + MIXED:
            sizes = lots.sizes([lots.spare[box] for box in lots.sharp_boxes()])
            self.gives(sizes, sharp_sizes(as_lists(lots.tree)))
            self.gives(sum(sizes), sharp_number(as_lists(lots.tree)))
            self.gives(max(1, len(sizes) - 1), catch_number(as_lists(lots.tree)))
            self.assertEqual(sizes[:4], (0, 0, 0, 0) if sizes else ())
            errors = lots.errors()
            found = [min((lot for box in boxes for lot in lots.alike[box]), key=len) for boxes in errors.values()]
            self.gives(lots.sizes(found), error_sizes(as_lists(lots.tree)))
            self.gives(len(errors), error_number(as_lists(lots.tree)))

    def test_catch_number(self):
        """Lists that show each lot of so many levers show all: with one less some list does not."""
        for lots in SEARCHED:
            catch = catch_number(lots.tree)
            errors = lots.errors()
            for wrong, boxes in errors.items():
                self.assertLessEqual(min(len(lots.spare[box]) for box in boxes), catch)
            # All settings at which a lot is right show each other least error set, and so each smaller lot.
            if catch > 1:
                hard = [wrong for wrong, boxes in errors.items() if min(len(lots.spare[box]) for box in boxes) == catch]
                self.assertTrue(hard)

    def test_examples(self):
        self.gives(((0, 0, 0, 0, 4), 4, 12), (sharp_sizes(HIDE), catch_number(HIDE), error_number(HIDE)))
        self.gives(((), 0, 1), (sharp_sizes(0), sharp_number(0), catch_number(0)))
        self.gives(((0, 2), 2), (error_sizes(0), error_number(0)))
        for tree in (flat_tree(2), flat_tree(5, "any"), chain_tree(6), pairs_tree(6)):
            flat = sum(all(isinstance(part, int) for part in part_of(tree, place)[1]) for place in tree_knots(tree))
            self.gives(((), (0, many_of(tree) + flat)), (sharp_sizes(tree), error_sizes(tree)))

    def test_errors(self):
        for call in (sharp_sizes, sharp_number, catch_number, error_sizes, error_number):
            self.fails(BadTree, 0, call, ("all", (0,)))
            self.fails(BadTree, 1, call, ("all", (0, 0)))

    def test_great_trees(self):
        rng = random.Random(3)
        trees = list(GREAT_TREES) + drawn_trees(4, 3, [200]) + [wide_tree(rng, 40, 5) for _ in range(3)]
        for tree in trees:
            sizes = sharp_sizes(tree)
            self.gives((sum(sizes), max(1, len(sizes) - 1)), (sharp_number(tree), catch_number(tree)))
            lone = error_number(tree) - sum(sizes)
            self.gives((0, lone) + sizes[2:], error_sizes(tree))
            self.assertGreater(lone, 200 if many_of(tree) == 200 else 0)


def part_of(tree, place):
    for at in place:
        tree = tree[1][at]
    return tree


class NumberTest(Case):

    def test_plain_search(self):
        for lots in SEARCHED + MIXED:
            tree = lots.tree
            sharp = lots.sharp_boxes()
            found = [sharp_lot(as_lists(tree), number) for number in range(len(sharp))]
            self.assertEqual({lots.box[lot] for lot in found}, set(sharp))
            for number, lot in enumerate(found):
                self.gives(lots.spare[lots.box[lot]], lot)
                for other in lots.alike[lots.box[lot]][:6]:
                    self.gives(number, sharp_place(tree, as_lists(other)))
            for box, alike in lots.alike.items():
                if box not in sharp:
                    self.gives(None, sharp_place(tree, alike[-1]))
            for number in (len(sharp), -1):
                self.fails(Refused, number, sharp_lot, tree, number)

    def test_error_lots(self):
        for lots in SEARCHED + MIXED:
            errors = lots.errors()
            sets = {}
            for wrong, boxes in errors.items():
                for box in boxes:
                    sets[box] = wrong
            found = [error_lot(as_lists(lots.tree), number) for number in range(len(errors))]
            self.assertEqual({sets[lots.box[lot]] for lot in found}, set(errors))
            lone = len(errors) - sharp_number(lots.tree)
            self.assertTrue(all(len(lot) == 1 for lot in found[:lone]))
            self.assertEqual([lot[0][0] for lot in found[:lots.many]], list(range(lots.many)) if lots.many > 1 else [0])
            for number, lot in enumerate(found[lone:]):
                self.gives(sharp_lot(lots.tree, number), lot)
            self.fails(Refused, len(errors), error_lot, lots.tree, len(errors))
        self.gives((((0, 0),), ((0, 1),)), (error_lot(0, 0), error_lot(0, 1)))

    def test_order_of_lone_lots(self):
        tree = ("all", (("any", (0, 3)), ("any", (("all", (1, 4)), 2)), 5))
        self.gives([((0, 0),), ((1, 1),), ((2, 0),), ((3, 0),), ((4, 1),), ((5, 1),), ((0, 1),), ((1, 0),)],
                   [error_lot(tree, number) for number in range(8)])

    def test_any_number(self):
        for value in ANY_VALUES + (True, "0", (0,), -1, 4):
            if not any(same(value, number) for number in range(4)):
                self.refuses(value, sharp_lot, HIDE, value)
            if not any(same(value, number) for number in range(12)):
                self.refuses(value, error_lot, HIDE, value)
            self.refuses(value, sharp_lot, 0, value)
            if not (isinstance(value, int) and not isinstance(value, bool) and value > 0):
                self.refuses(value, missed_lot, HIDE, value)
                self.refuses(value, missed_lot, 0, value)
            if not same(value, 0):
                for call in (sharp_lot, error_lot, missed_lot, sharp_place):
                    with self.assertRaises(BadTree):
                        call(value, None)
        for call in (sharp_lot, error_lot, missed_lot, sharp_place):
            self.fails(BadTree, 1, call, ("all", (1, 0)), None)
        self.fails(BadLot, -1, sharp_place, HIDE, ())
        self.fails(BadLot, 1, sharp_place, HIDE, [(0, 0), (0, 1)])

    def test_sixty_levers(self):
        rng = random.Random(5)
        for tree in drawn_trees(6, 12, [60]) + [wide_tree(rng, 20, 3), wide_tree(rng, 40, 1), wide_tree(rng, 12, 5)]:
            number = sharp_number(tree)
            self.fails(Refused, number, sharp_lot, tree, number)
            for at in {0, number // 3, number - 1} if number else ():
                lot = sharp_lot(tree, at)
                self.gives((True, at), (is_sharp(tree, lot), sharp_place(tree, lot)))
                self.gives(lot, spare_lot(tree, lot))
                lone = error_number(tree) - number
                self.gives(lot, error_lot(tree, lone + at))


class MissedTest(Case):

    def test_plain_search(self):
        missed = 0
        for lots in SEARCHED + MIXED:
            catch = catch_number(lots.tree)
            self.gives(None, missed_lot(as_lists(lots.tree), catch))
            self.gives(None, missed_lot(as_lists(lots.tree), catch + 10 ** 20))
            for number in range(1, catch):
                missed += 1
                settings, lot = missed_lot(as_lists(lots.tree), number)
                self.gives(False, lots.shows(settings, lot))
                self.assertTrue(all(lots.shows(settings, other) for other in lots.lots if len(other) <= number))
        self.assertGreater(missed, 10)

    def test_sixty_levers(self):
        rng = random.Random(7)
        tried = 0
        for tree in drawn_trees(8, 10, [60]) + [wide_tree(rng, 20, 3), wide_tree(rng, 12, 5)]:
            catch = catch_number(tree)
            for number in {1, catch - 1} - {0}:
                if catch == 1:
                    continue
                tried += 1
                settings, lot = missed_lot(tree, number)
                self.assertLessEqual(len(settings), 400)
                self.assertGreater(len(lot), number)
                self.assertTrue(all(lamp(tree, broken(at, lot)) == lamp(tree, at) for at in settings))
                self.assertEqual(len(plain_cleared_great(tree, settings)), 2 * many_of(tree))
                for _ in range(60):
                    levers = sorted(rng.sample(range(many_of(tree)), rng.randint(1, min(number, 6))))
                    other = [(lever, rng.randint(0, 1)) for lever in levers]
                    self.assertTrue(any(lamp(tree, broken(at, other)) != lamp(tree, at) for at in settings))
        self.assertGreater(tried, 8)

    def test_example(self):
        settings, lot = missed_lot(HIDE, 3)
        self.gives(4, len(lot))
        self.gives(12, len(plain_cleared(HIDE, settings)))
        self.gives(None, missed_lot(HIDE, 4))
        self.assertIsNotNone(sharp_place(HIDE, LOT))


if __name__ == "__main__":
    unittest.main()
