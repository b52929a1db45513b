"""Point 78: how many dead levers must be looked for at once in the conditions of a grammar."""

import random
import time
import unittest

from deadlevers.errors import Refused
from deadlevers.grammars import Grammar, derivation_levers, derived_tree
from deadlevers.reaches import greatest_meeting, meeting_made
from deadlevers.sharp import catch_number
from grammar_helpers import (ALONE, DEEP, FLAT, GRAMMARS, NONE, THREES, TWO, all_of, conditions, drawn_grammars,
                             full_grammar)
from helpers import ANY_VALUES, Case, has_only_tuples, same
from lot_helpers import Lots

BOTH = Grammar([[("lever",), ("all", (0, 0)), ("any", (0, 0))]])
MANY = GRAMMARS + tuple(drawn_grammars(1, 40)) + (BOTH,)


class MeetingTest(Case):

    def holds(self, grammar, name, levers, worth):
        self.gives(worth, greatest_meeting(grammar, name, levers))
        made = meeting_made(grammar, name, levers)
        self.gives(worth is None, made is None)
        if made is not None:
            self.assertTrue(has_only_tuples(made))
            self.gives(levers, derivation_levers(grammar, name, made))
            self.gives(worth, catch_number(derived_tree(grammar, name, made)))

    def test_all_conditions(self):
        unlike = set()
        for grammar in MANY:
            for name in range(grammar.names):
                for levers in range(1, 9):
                    if len(all_of(grammar.rules, name, levers)) <= 1500:
                        numbers = {catch_number(tree) for tree in {tree for _, tree in conditions(grammar, name, levers)}}
                        unlike |= numbers
                        self.holds(grammar, name, levers, max(numbers) if numbers else None)
        self.assertLessEqual({1, 4, 6}, unlike)

    def test_lists_that_show_every_lot(self):
        """The number is that of a plain search over all lots of all conditions."""
        for grammar in (TWO, THREES):
            trees = {tree for _, tree in conditions(grammar, 0, 6)}
            worth = 1
            for tree in trees:
                lots = Lots(tree)
                worth = max([worth] + [len(lots.spare[box]) for box in lots.sharp_boxes()])
            self.gives(worth, greatest_meeting(grammar, 0, 6))

    def test_edges(self):
        self.gives(4, greatest_meeting(TWO, 0, 6))
        self.gives((None, None), (greatest_meeting(NONE, 0, 5), meeting_made(NONE, 0, 5)))
        self.gives((1, (0, ())), (greatest_meeting(ALONE, 0, 1), meeting_made(ALONE, 0, 1)))
        self.gives((1, None), (greatest_meeting(FLAT, 0, 12), greatest_meeting(ALONE, 0, 2)))
        self.gives((None, 1), (greatest_meeting(DEEP, 0, 12), greatest_meeting(DEEP, 3, 9)))

    def test_limits(self):
        rng = random.Random(2)
        cases = [(full_grammar(rng, 4, 3), 12) for _ in range(6)] + [(full_grammar(rng, 6, 4), 9) for _ in range(6)]
        for grammar, levers in cases + [(BOTH, 12), (TWO, 12)]:
            for name in range(grammar.names):
                start = time.perf_counter()
                worth = greatest_meeting(grammar, name, levers)
                self.assertLess(time.perf_counter() - start, 3)
                self.holds(grammar, name, levers, worth)

    def test_errors(self):
        for call in (greatest_meeting, meeting_made):
            for value in ANY_VALUES + (2, 13):
                if not same(value, 0) and not same(value, 1):
                    self.refuses(value, call, TWO, value, None)
                if not any(same(value, levers) for levers in (1, 2, 7)):
                    self.refuses(value, call, TWO, 0, value)
            self.fails(Refused, 13, call, TWO, 0, 13)
            self.fails(Refused, 2, call, TWO, 2, 0)


if __name__ == "__main__":
    unittest.main()
