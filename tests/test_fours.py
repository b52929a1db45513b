"""Points 25 and 26: the lots of four levers that clearing lists let by."""

import itertools
import random
import time
import unittest

from deadlevers.court import is_honest
from deadlevers.errors import BadLot, BadTree, Refused
from deadlevers.fours import four_lot, four_number, four_place
from deadlevers.meetings import is_let
from helpers import (ANY_VALUES, GREAT_TREES, Case, all_lots, as_lists, drawn_lot, drawn_trees, has_only_tuples, levers_of,
                     mirror_words, other_word, same, some_trees)
from lot_helpers import Lots

TWO = ("all", (("any", (0, ("all", (1, 2)))), ("any", (("all", (3, 4)), 5))))
WIDE = ("all", tuple(("any", (4 * at, ("all", (4 * at + 1, 4 * at + 2)), 4 * at + 3)) for at in range(50)))
THREE = ("any", (("all", (0, ("any", (1, 2)), ("any", (3, 4)))), ("all", (5, ("any", (6, ("all", (7, 8)))))),
                 ("all", (("any", (9, 10)), 11))))


def knots_of(tree, place=()):
    """All knots with their places, ascending."""
    if isinstance(tree, int):
        return []
    return [(place, tree)] + [found for at, part in enumerate(tree[1]) for found in knots_of(part, place + (at,))]


def plain_pairs(part, word):
    """The pairs of a part at knots with a word, in order."""
    found = []
    for place, knot in knots_of(part):
        if knot[0] == word:
            for i, j in itertools.permutations(range(len(knot[1])), 2):
                if not isinstance(knot[1][i], int):
                    for first, other in itertools.product(levers_of(knot[1][i]), levers_of(knot[1][j])):
                        found.append(((place, i, j, first, other), (first, other)))
    return [pair for _, pair in sorted(found)]


def plain_fours(tree):
    """All lots, in the order of their numbers."""
    found = []
    for _, knot in knots_of(tree):
        word = other_word(knot[0])
        place = 1 if word == "any" else 0
        for one, other in itertools.combinations(knot[1], 2):
            for pairs in itertools.product(plain_pairs(one, word), plain_pairs(other, word)):
                found.append(tuple(sorted((pair[at], (place, 1 - place)[at]) for pair in pairs for at in (0, 1))))
    return found


class FourTest(Case):

    def test_in_order(self):
        full = 0
        for tree in some_trees(4) + [TWO, THREE, mirror_words(THREE)] + drawn_trees(1, 150, [6, 7, 8, 9, 11]):
            worth = plain_fours(tree)
            full += bool(worth)
            self.gives(len(worth), four_number(as_lists(tree)))
            self.assertEqual(len(set(worth)), len(worth))
            for number in range(0, len(worth), max(1, len(worth) // 25)):
                found = four_lot(as_lists(tree), number)
                self.assertTrue(has_only_tuples(found))
                self.gives(worth[number], found)
                self.gives(number, four_place(tree, as_lists(found)))
            self.fails(Refused, len(worth), four_lot, tree, len(worth))
            self.gives(is_honest(tree), len(worth) == 0)
        self.assertGreater(full, 20)

    def test_just_these_are_let_by(self):
        """No lot of three levers or fewer is let by; of four just these."""
        trees = [tree for tree in drawn_trees(2, 400, [6, 7]) if not is_honest(tree)][:9]
        for tree in [TWO] + trees + drawn_trees(3, 4, [4, 5, 6]):
            lots = Lots(tree)
            let = [lot for lot in lots.lots if len(lot) <= 4 and lots.is_let(lots.box[lot])]
            self.assertEqual(sorted(let), sorted(plain_fours(tree)))

    def test_places_of_others(self):
        rng = random.Random(4)
        for tree in [TWO, THREE] + drawn_trees(5, 30, [6, 8, 9]):
            worth = {lot: number for number, lot in enumerate(plain_fours(tree))}
            lots = [drawn_lot(rng, len(levers_of(tree))) for _ in range(60)]
            for lot in list(worth)[:20]:
                levers = sorted(rng.sample(range(len(levers_of(tree))), 4))
                lots += [lot[:3], tuple((lever, 1 - place) for lever, place in lot),
                         lot[:1] + tuple((lever, 1 - place) for lever, place in lot[1:2]) + lot[2:],
                         tuple((lever, place) for lever, (_, place) in zip(levers, lot))]
            for lot in lots:
                self.gives(worth.get(lot), four_place(tree, lot))

    def test_all_lots_of_four(self):
        worth = {lot: number for number, lot in enumerate(plain_fours(TWO))}
        for lot in all_lots(6):
            self.gives(worth.get(lot), four_place(TWO, lot))
            self.gives(lot in worth or len(lot) > 4 and is_let(TWO, lot), is_let(TWO, lot))

    def test_edges(self):
        self.gives((4, ((0, 0), (1, 1), (4, 1), (5, 0))), (four_number(TWO), four_lot(TWO, 1)))
        self.gives(2, four_place(TWO, ((0, 0), (2, 1), (3, 1), (5, 0))))
        self.gives((0, None), (four_number(0), four_place(0, [(0, 1)])))
        self.gives(0, four_number(("all", (("any", (0, 1)), ("any", (2, 3))))))

    def test_great_trees(self):
        rng = random.Random(6)
        for tree in GREAT_TREES + (WIDE, mirror_words(WIDE)):
            start = time.perf_counter()
            number = four_number(tree)
            self.gives(is_honest(tree), number == 0)
            for at in sorted({0, number - 1, number // 2} | {rng.randrange(number) for _ in range(5)}) if number else []:
                lot = four_lot(tree, at)
                self.gives(at, four_place(tree, lot))
                self.assertTrue(len(lot) == 4 and is_let(tree, lot))
            self.fails(Refused, number, four_lot, tree, number)
            self.assertLess(time.perf_counter() - start, 4)
        # Fifty parts: two of them, and in both two firsts and two others.
        self.gives(1225 * 16, four_number(WIDE))

    def test_errors(self):
        for value in ANY_VALUES + (4, -4):
            if not any(same(value, number) for number in (0, 1, 2)):
                self.refuses(value, four_lot, TWO, value)
            self.refuses(value, four_lot, ("all", (0, 1)), value)
        for value in ((), None, 0, "lot"):
            self.fails(BadLot, -1, four_place, TWO, value)
        self.fails(BadLot, 1, four_place, TWO, [(1, 0), (0, 0)])
        self.fails(BadLot, 0, four_place, TWO, [(6, 0)])
        for call, more in ((four_number, ()), (four_lot, (None,)), (four_place, (None,))):
            self.fails(BadTree, 0, call, ("all", (0,)), *more)
            self.fails(BadTree, 1, call, ("all", (1, 0)), *more)


if __name__ == "__main__":
    unittest.main()
