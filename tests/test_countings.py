"""Point 77: how many derivations there are, their numbers, and their trials."""

import random
import time
import unittest

from deadlevers.countings import made_at, made_number, made_numbers, pair_made, trial_pairs
from deadlevers.errors import Refused
from deadlevers.grammars import Grammar, derived_tree
from deadlevers.sizes import size_pairs
from deadlevers.updown import trial_counts
from grammar_helpers import (ALONE, DEEP, FLAT, GRAMMARS, NONE, THREES, TWO, all_of, comb, conditions, drawn_grammars,
                             full_grammar, plain_shape, plain_tree)
from helpers import ANY_VALUES, Case, as_lists, has_only_tuples, plain_counts, same

SHAPES = ("lever", "flat all", "flat any", "knots all", "knots any", "tall all", "tall any", "wide")
MANY = GRAMMARS + tuple(drawn_grammars(1, 40))
# Each knot of each kind, and a lever, for both names.
ALL = Grammar([[("lever",), ("all", (1, 0)), ("any", (0, 1)), ("any", (1, 1, 0))],
               [("any", (0, 0)), ("lever",), ("all", (1, 1, 1)), ("all", (0, 1))]])


class CountTest(Case):

    def test_plain_search(self):
        for grammar in MANY + (ALL,):
            for name in range(grammar.names):
                for levers in range(1, 7):
                    shapes = [plain_shape(tree) for _, tree in conditions(grammar, name, levers)]
                    self.gives(tuple(map(shapes.count, SHAPES)), made_numbers(grammar, name, levers))

    def test_there_and_back(self):
        for grammar in MANY + (ALL,):
            for name in range(grammar.names):
                for levers in range(1, 6):
                    found = all_of(grammar.rules, name, levers)
                    step = max(1, len(found) // 40)
                    for number in range(0, len(found), step):
                        made = made_at(grammar, name, levers, number)
                        self.gives(found[number], made)
                        self.gives(number, made_number(grammar, name, as_lists(made)))
                    self.fails(Refused, len(found), made_at, grammar, name, levers, len(found))

    def test_great_numbers(self):
        """All numbers of thirty levers, shape by shape as far as they are drawn."""
        rng = random.Random(2)
        for grammar in [full_grammar(rng, 6, 4) for _ in range(6)] + [TWO, FLAT, THREES, ALL]:
            start = time.perf_counter()
            counts = made_numbers(grammar, 0, 30)
            self.assertLess(time.perf_counter() - start, 3)
            total = sum(counts)
            for number in [0, total - 1, total // 2] + [rng.randrange(total) for _ in range(5)] if total else []:
                made = made_at(grammar, 0, 30, number)
                self.gives(number, made_number(grammar, 0, made))
                self.assertGreater(counts[SHAPES.index(plain_shape(plain_tree(grammar.rules, 0, made)))], 0)
            self.fails(Refused, total, made_at, grammar, 0, 30, total)

    def test_shapes_of_all_numbers(self):
        """The numbers from 0 on come to just what is counted, shape by shape."""
        for grammar in (TWO, THREES, ALL):
            for levers in (6, 7):
                counts = made_numbers(grammar, 0, levers)
                if sum(counts) < 3000:
                    found = [plain_shape(derived_tree(grammar, 0, made_at(grammar, 0, levers, number)))
                             for number in range(sum(counts))]
                    self.gives(counts, tuple(map(found.count, SHAPES)))

    def test_edges(self):
        self.gives((0, 0, 0, 1, 0, 4, 0, 0), made_numbers(TWO, 0, 4))
        self.gives((0,) * 8, made_numbers(NONE, 0, 30))
        self.gives((1,) + (0,) * 7, made_numbers(ALONE, 0, 1))
        # Ways to put brackets around thirty levers.
        self.gives((0, 1002242216651368) + (0,) * 6, made_numbers(FLAT, 0, 30))
        self.gives((0,) * 8, made_numbers(DEEP, 0, 30))
        self.gives(1, sum(made_numbers(DEEP, 2, 27)))
        self.gives(2, sum(made_numbers(Grammar([[("lever",), ("lever",)]]), 0, 1)))
        self.gives(((0, ()), (1, ())), tuple(made_at(Grammar([[("lever",), ("lever",)]]), 0, 1, at) for at in (0, 1)))

    def test_errors(self):
        for value in ANY_VALUES + (2, 31):
            if not same(value, 0) and not same(value, 1):
                self.refuses(value, made_numbers, TWO, value, None)
                self.refuses(value, made_at, TWO, value, None, None)
                self.refuses(value, made_number, TWO, value, None)
            if not any(same(value, levers) for levers in (1, 2, 7)):
                self.refuses(value, made_numbers, TWO, 0, value)
                self.refuses(value, made_at, TWO, 0, value, None)
            if not same(value, 0) and not same(value, 1):
                self.refuses(value, made_at, TWO, 0, 3, value)
            self.refuses(value, made_number, TWO, 0, value)
        for value in (0, 31, 200, -1, "3", (3,), 3.0):
            self.refuses(value, made_numbers, TWO, 0, value)
        made = comb(30)
        self.gives(True, same(made, made_at(FLAT, 0, 30, made_number(FLAT, 0, made))))
        for levers in (31, 200, 201):
            made = comb(levers)
            self.refuses(made, made_number, FLAT, 0, made)


class TrialTest(Case):

    def test_plain_search(self):
        for grammar in MANY + (ALL,):
            for name in range(grammar.names):
                for levers in range(1, 7):
                    pairs = sorted({plain_counts(tree) for _, tree in conditions(grammar, name, levers)})
                    self.gives(tuple(pairs), trial_pairs(grammar, name, levers))
                    for up in range(levers + 2):
                        for down in range(levers + 2):
                            made = pair_made(grammar, name, levers, up, down)
                            self.gives((up, down) in pairs, made is not None)
                            if made is not None:
                                self.assertTrue(has_only_tuples(made))
                                self.assertIn(made, all_of(grammar.rules, name, levers))
                                self.gives((up, down), trial_counts(derived_tree(grammar, name, made)))

    def test_limits(self):
        rng = random.Random(3)
        cases = [(full_grammar(rng, 4, 3), 12) for _ in range(5)] + [(full_grammar(rng, 6, 4), 9) for _ in range(5)]
        for grammar, levers in cases + [(ALL, 12), (TWO, 12)]:
            start = time.perf_counter()
            pairs = trial_pairs(grammar, 0, levers)
            self.assertLess(time.perf_counter() - start, 3)
            self.assertEqual(list(pairs), sorted(set(pairs)))
            self.assertLessEqual(set(pairs), set(size_pairs(levers)))
            for up, down in pairs[:3] + pairs[-3:]:
                tree = derived_tree(grammar, 0, pair_made(grammar, 0, levers, up, down))
                self.gives((up, down), trial_counts(tree))
        self.gives(size_pairs(9), trial_pairs(Grammar([[("lever",), ("all", (0, 0)), ("any", (0, 0))]]), 0, 9))

    def test_edges(self):
        self.gives(((2, 3), (3, 3)), trial_pairs(TWO, 0, 5))
        self.gives((), trial_pairs(NONE, 0, 5))
        self.gives(((1, 12),), trial_pairs(FLAT, 0, 12))
        self.gives((((1, 1),), (0, ())), (trial_pairs(ALONE, 0, 1), pair_made(ALONE, 0, 1, 1, 1)))
        self.gives(None, pair_made(ALONE, 0, 1, 10 ** 30, 0))

    def test_errors(self):
        for value in ANY_VALUES + (2, 13):
            if not same(value, 0) and not same(value, 1):
                self.refuses(value, trial_pairs, TWO, value, None)
                self.refuses(value, pair_made, TWO, value, None, None, None)
            if not any(same(value, levers) for levers in (1, 2, 7)):
                self.refuses(value, trial_pairs, TWO, 0, value)
                self.refuses(value, pair_made, TWO, 0, value, None, None)
            if not (isinstance(value, int) and not isinstance(value, bool) and value >= 0):
                self.refuses(value, pair_made, TWO, 0, 3, value, None)
                self.refuses(value, pair_made, TWO, 0, 3, 1, value)
        self.fails(Refused, 13, trial_pairs, TWO, 0, 13)
        self.fails(Refused, 0, pair_made, TWO, 0, 0, -1, -1)


if __name__ == "__main__":
    unittest.main()
