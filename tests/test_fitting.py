"""Points 50 to 52: what fits, what is sure, what a list lets by."""

import random
import unittest

from deadlevers.court import is_honest
from deadlevers.errors import BadList, BadTree, Refused, TooGreat
from deadlevers.fitting import fewest_dead, fitting_lot, fitting_total, let_by, surely_alive, surely_dead
from deadlevers.hanging import cleared_levers, is_clearing
from deadlevers.slips import part_answers
from helpers import (ANY_VALUES, Case, as_lists, broken, drawn_list, drawn_lot, drawn_trees, flat_tree, lamp, many_of,
                     pairs_tree, same, settings_of, some_trees)
from test_slips import LIMITS, answers, drawn_questions, states_of

PAIRS = pairs_tree(4)
TRIALS = [((1, 0, 0, 1), 1), ((0, 0, 1, 0), 1)]
CALLS = (fitting_total, fewest_dead, fitting_lot, surely_alive, surely_dead)


class FittingTest(Case):

    def holds(self, tree, settings, lamps):
        trials = as_lists(list(zip(settings, lamps)))
        many = many_of(tree)
        fit = [lot for lot in states_of(many) if answers(tree, settings, lot) == tuple(lamps)]
        self.gives(len(fit), fitting_total(as_lists(tree), trials))
        if not fit:
            self.gives((None, None), (fewest_dead(tree, trials), fitting_lot(tree, trials)))
            for call in (surely_alive, surely_dead):
                self.refuses(trials, call, tree, trials)
            return
        fewest = min(map(len, fit))
        self.gives((fewest, sum(len(lot) == fewest for lot in fit)), fewest_dead(as_lists(tree), trials))
        found = fitting_lot(as_lists(tree), trials)
        self.assertTrue(any(same(found, lot) for lot in fit) and len(found) == fewest, (tree, trials, found))
        alive = [lever for lever in range(many) if all(lever not in dict(lot) for lot in fit)]
        self.gives(tuple(alive), surely_alive(as_lists(tree), trials))
        dead = [(lever, place) for lever in range(many) for place in (0, 1) if all((lever, place) in lot for lot in fit)]
        self.gives(tuple(dead), surely_dead(as_lists(tree), trials))

    def test_plain_search(self):
        rng = random.Random(1)
        for tree, settings in drawn_questions(2, some_trees(3) + drawn_trees(3, 25, [4, 5])):
            lot = drawn_lot(rng, many_of(tree))
            self.holds(tree, settings, answers(tree, settings, lot))
            self.holds(tree, settings, answers(tree, settings, ()))
            self.holds(tree, settings, [rng.randint(0, 1) for _ in settings])

    def test_many_trials(self):
        rng = random.Random(4)
        for tree in drawn_trees(5, 10, [4, 5]):
            settings = settings_of(many_of(tree))
            for lot in ((), drawn_lot(rng, many_of(tree)), drawn_lot(rng, many_of(tree))):
                self.holds(tree, settings, answers(tree, settings, lot))

    def test_examples(self):
        self.gives(((1, 2), (), ()), (fewest_dead(PAIRS, TRIALS), surely_alive(PAIRS, TRIALS), surely_dead(PAIRS, TRIALS)))
        self.gives(None, fitting_lot(PAIRS, [((1, 1, 1, 1), 0), ((1, 0, 1, 1), 1)]))
        self.gives((81, (0, 1), ()), (fitting_total(PAIRS, []), fewest_dead(PAIRS, ()), fitting_lot(PAIRS, ())))
        self.gives(((), ()), (surely_alive(PAIRS, ()), surely_dead(PAIRS, [])))
        # Two trials of one setting with unlike lamps.
        both = [((1, 0, 1, 0), 1), ((1, 0, 1, 0), 0)]
        self.gives((0, None, None), (fitting_total(PAIRS, both), fewest_dead(PAIRS, both), fitting_lot(PAIRS, both)))
        self.refuses(both, surely_alive, PAIRS, both)
        self.gives(((0,), ()), (surely_alive(0, [((0,), 0), ((1,), 1)]), surely_dead(0, [((0,), 0), ((1,), 1)])))
        self.gives(((), ((0, 1),)), (surely_alive(0, [((0,), 1)]), surely_dead(0, [((0,), 1)])))

    def test_a_cleared_lever_need_not_be_alive(self):
        tree, settings = ("all", (0, ("any", (1, 2)))), [(0, 0, 1), (1, 1, 0)]
        trials = [(at, lamp(tree, at)) for at in settings]
        self.gives((True, ((0, 1), (0,))), (is_honest(tree), cleared_levers(tree, settings)))
        self.gives((), surely_alive(tree, trials))

    def test_limits(self):
        rng = random.Random(6)
        for tree, settings in LIMITS:
            many = many_of(tree)
            lot = drawn_lot(rng, many)
            trials = [(at, lamp(tree, broken(at, lot))) for at in settings]
            fewest, count = fewest_dead(tree, trials)
            self.assertLessEqual(fewest, len(lot))
            self.assertGreaterEqual(fitting_total(tree, trials), count)
            found = fitting_lot(tree, trials)
            self.gives(fewest, len(found))
            self.assertTrue(all(lamp(tree, broken(at, found)) == seen for at, seen in trials))
            dead = dict(lot)
            self.assertFalse(set(surely_alive(tree, trials)) & set(dead))
            self.assertTrue(set(surely_dead(tree, trials)) <= set(lot))

    def test_too_great_only_where_it_may(self):
        raised = 0
        for tree, settings in drawn_questions(7, some_trees(3) + drawn_trees(8, 8, [5])):
            count = len(part_answers(tree, settings, ()))
            trials = [(at, 1 - lamp(tree, at)) for at in settings]
            total = fitting_total(tree, trials)
            for most in (1, 2, 4, count):
                for call in CALLS + (let_by,):
                    try:
                        call(tree, settings if call is let_by else trials, most=most)
                    except TooGreat as error:
                        raised += 1
                        self.gives(most, error.most)
                        self.assertGreater(count, most)
                    except Refused as error:
                        self.gives((0, True), (total, call in (surely_alive, surely_dead)))
                        self.assertIs(error.at, trials)
        self.assertGreater(raised, 10)

    def test_errors(self):
        for call in CALLS:
            self.fails(BadTree, 0, call, ("all", (0,)), None)
            self.fails(BadTree, 1, call, ("all", (0, 0)), None)
            self.fails(BadList, -1, call, PAIRS, TRIALS * 201)
            self.fails(BadList, 2, call, PAIRS, TRIALS + [TRIALS[0] + (0,), None])
            self.fails(BadList, 0, call, PAIRS, (((0, 1, 0), 1),))
            for value in ANY_VALUES:
                if not (isinstance(value, (list, tuple)) and len(value) <= 400):
                    self.fails(BadList, -1, call, PAIRS, value)
                elif value:
                    self.fails(BadList, 0, call, PAIRS, value)
                self.fails(BadList, 1, call, PAIRS, [TRIALS[0], value])
                if not (same(value, 0) or same(value, 1)):
                    self.fails(BadList, 1, call, PAIRS, [TRIALS[0], (TRIALS[0][0], value)])
                if not same(value, 0):
                    with self.assertRaises(BadTree):
                        call(value, value)


class LetByTest(Case):

    def test_plain_search(self):
        seen = set()
        for tree, settings in drawn_questions(9, some_trees(3) + drawn_trees(10, 30, [4, 5])):
            lots = [lot for lot in states_of(many_of(tree))[1:] if answers(tree, settings, lot) == answers(tree, settings, ())]
            found = let_by(as_lists(tree), as_lists(settings))
            seen.add(found is None)
            if not lots:
                self.gives(None, found)
            else:
                self.assertTrue(any(same(found, lot) for lot in lots) and len(found) == min(map(len, lots)))
        self.assertEqual(seen, {True, False})

    def test_honest_trees(self):
        rng = random.Random(11)
        seen = set()
        for tree in some_trees(4) + drawn_trees(12, 20, [5, 6]):
            settings = settings_of(many_of(tree))
            for count in (len(settings), len(settings) // 2, 3):
                chosen = rng.sample(settings, min(count, len(settings)))
                if is_honest(tree):
                    seen.add(is_clearing(tree, chosen))
                    self.gives(is_clearing(tree, chosen), let_by(tree, chosen) is None)
        self.assertEqual(seen, {True, False})

    def test_four_dead_levers(self):
        tree = ("all", (("any", (0, ("all", (1, 2)))), ("any", (("all", (3, 4)), 5))))
        settings = [(1, 0, 1, 1, 1, 0), (0, 1, 1, 0, 1, 1), (0, 0, 1, 0, 0, 1), (0, 1, 0, 1, 1, 1), (1, 0, 0, 0, 1, 0),
                    (1, 1, 1, 1, 0, 0)]
        self.gives(True, is_clearing(tree, settings))
        found = let_by(tree, settings)
        self.gives((4, True), (len(found), answers(tree, settings, found) == answers(tree, settings, ())))

    def test_edges_and_limits(self):
        self.gives(1, len(let_by(PAIRS, ())))
        self.gives(None, let_by(PAIRS, [(1, 0, 1, 0), (0, 1, 0, 1), (0, 0, 1, 1), (1, 1, 0, 0)]))
        self.gives(None, let_by(0, [(0,), (1,)]))
        self.gives(((0, 1),), let_by(0, [(1,)] * 400))
        for tree, settings in LIMITS:
            found = let_by(tree, settings)
            if found is not None:
                self.assertTrue(all(lamp(tree, broken(at, found)) == lamp(tree, at) for at in settings))
        self.gives(None, let_by(flat_tree(6), drawn_list(random.Random(1), 6, 300)))

    def test_errors(self):
        self.fails(BadTree, 0, let_by, ("all", (0,)), None)
        self.fails(BadList, -1, let_by, PAIRS, [(0, 0, 0, 0)] * 401)
        for value in ANY_VALUES:
            if not (isinstance(value, (list, tuple)) and len(value) <= 400):
                self.fails(BadList, -1, let_by, PAIRS, value)
            self.fails(BadList, 1, let_by, PAIRS, [(0, 0, 0, 0), value])


if __name__ == "__main__":
    unittest.main()
