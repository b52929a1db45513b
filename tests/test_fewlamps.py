"""Point 81: the fewest lamps, the fewest levers to be looked at."""

import itertools
import random
import time
import unittest

from deadlevers.court import is_honest
from deadlevers.errors import BadTree, Refused
from deadlevers.fewlamps import least_lamps, least_looks
from deadlevers.lamps import is_sure
from helpers import (ANY_VALUES, GREAT_TREES, Case, all_deaths, as_lists, chain_tree, drawn_tree, drawn_trees, has_only_tuples,
                     many_of, mirror_words, pairs_tree, same)
from lamp_helpers import drawn_doubts, drawn_lamps, inner_knots
from test_lamps import ANY_DOUBTS, ANY_LAMPS, DEEP, GOOD_LAMPS, TWO

# Four parts that are two way: three of them want a lamp, or a look.
FOUR = ("all", tuple(("any", (3 * at, ("all", (3 * at + 1, 3 * at + 2)))) for at in range(4)))


class LeastTest(Case):

    def test_plain_search(self):
        rng = random.Random(1)
        unlike = [set(), set()]
        for tree in [TWO, DEEP, FOUR, mirror_words(FOUR)] * 3 + drawn_trees(2, 200, [6, 8, 10, 12]):
            many = many_of(tree)
            doubts = rng.choice([None, drawn_doubts(rng, many, 0.9)])
            told = None if doubts is None else as_lists(doubts)
            lamps = least_lamps(as_lists(tree), doubts=told)
            self.assertTrue(has_only_tuples(lamps) and list(lamps) == sorted(set(lamps)))
            self.assertTrue(is_sure(tree, doubts=doubts, lamps=lamps))
            for fewer in itertools.combinations(inner_knots(tree), max(0, len(lamps) - 1)):
                self.assertFalse(lamps and is_sure(tree, doubts=doubts, lamps=fewer))
            unlike[0].add(len(lamps))
            own = drawn_lamps(rng, tree, rng.choice([0, 0.1]))
            looks = least_looks(as_lists(tree), doubts=told, lamps=as_lists(own))
            self.assertTrue(has_only_tuples(looks) and list(looks) == sorted(set(looks)))
            whole = all_deaths(many) if doubts is None else doubts

            def without(levers):
                return is_sure(tree, doubts=[death for death in whole if death[0] not in levers], lamps=own)

            self.assertTrue(without(looks))
            for fewer in itertools.combinations(range(many), max(0, len(looks) - 1)):
                self.assertFalse(looks and without(fewer))
            unlike[1].add(len(looks))
        self.assertLessEqual({0, 1, 2, 3}, unlike[0] & unlike[1])

    def test_edges(self):
        self.gives(((), (), (), ()), (least_lamps(0), least_looks(0), least_lamps(TWO, doubts=()), least_looks(TWO, doubts=[])))
        self.gives((1, 1, 3, 3), tuple(len(call(tree)) for tree in (TWO, FOUR) for call in (least_lamps, least_looks)))
        self.gives((), least_looks(TWO, lamps=[(0,)]))
        for tree in GREAT_TREES:
            self.gives((is_honest(tree),) * 2, (least_lamps(tree) == (), least_looks(tree) == ()))

    def test_limits(self):
        rng = random.Random(3)
        for tree in [drawn_tree(rng, 60) for _ in range(4)] + [chain_tree(60), pairs_tree(60)]:
            start = time.perf_counter()
            lamps, looks = least_lamps(tree), least_looks(tree, lamps=drawn_lamps(rng, tree, 0.1))
            self.assertLess(time.perf_counter() - start, 3)
            self.assertTrue(is_sure(tree, lamps=lamps))
            self.assertLessEqual(len(looks), 60)

    def test_errors(self):
        for value in ANY_VALUES + ANY_DOUBTS:
            if value is not None and not any(same(value, told) for told in ((), [], [(0, 0), (0, 1)], ((0, 1),), [[0, 0]])):
                self.fails(Refused, value, least_lamps, TWO, doubts=value)
                self.fails(Refused, value, least_looks, TWO, doubts=value, lamps=None)
        for value in ANY_VALUES + ANY_LAMPS:
            if not any(same(value, lamps) for lamps in GOOD_LAMPS):
                self.fails(Refused, value, least_looks, TWO, lamps=value)
        for call in (least_lamps, least_looks):
            self.fails(BadTree, 0, call, ("all", (0,)), doubts=0)
            self.fails(BadTree, 1, call, ("all", (1, 0)), doubts=0)


if __name__ == "__main__":
    unittest.main()
