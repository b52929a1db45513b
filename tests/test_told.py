"""Points 53 to 55: what trials tell."""

import random
import unittest

from deadlevers.errors import BadList, BadTree
from deadlevers.fitting import fitting_total, let_by
from deadlevers.hanging import uncleared
from deadlevers.lists import least_list
from deadlevers.told import best_trial, is_telling, told_shows
from helpers import (ANY_VALUES, Case, as_lists, broken, chain_tree, drawn_list, drawn_lot, drawn_tree, drawn_trees,
                     flat_tree, lamp, levers_of, many_of, pairs_tree, plain_clears, settings_of, same, some_trees)
from test_slips import answers, drawn_questions, states_of

OTHER = ("all", (0, ("any", (1, 2))))
PAIRS = pairs_tree(4)
RNG = random.Random(1)
LIMITS = [(tree, drawn_list(RNG, many, count)) for many, count in ((200, 20), (6, 400))
          for tree in (chain_tree(many), flat_tree(many), pairs_tree(many, "any"), drawn_tree(RNG, many))]


def plain_told(tree, trials):
    """As the point tells it, knot by knot, by the places of each part's own levers; None for grief."""
    told = {}
    for setting, seen in trials:
        if told.setdefault(tuple(setting), seen) != seen:
            return None
    found = []

    def own(part, setting):
        return tuple(setting[lever] for lever in sorted(levers_of(part)))

    def walk(part, asked):
        if isinstance(part, int):
            found.extend({(part, setting[part], shows) for setting, shows in asked})
            return True
        passing = int(part[0] == "all")
        inner = [[(setting, shows) for setting, shows in asked if shows == passing] for _ in part[1]]
        known = [{own(each, setting) for setting, _ in rows} for each, rows in zip(part[1], inner)]
        for setting, shows in asked:
            if shows != passing:
                left = [at for at, each in enumerate(part[1]) if own(each, setting) not in known[at]]
                if not left:
                    return False
                if len(left) == 1:
                    inner[left[0]].append((setting, shows))
        return all([walk(each, rows) for each, rows in zip(part[1], inner)])

    return tuple(sorted(found)) if walk(tree, list(told.items())) else None


class ToldTest(Case):

    def test_plain_search(self):
        rng = random.Random(2)
        seen = set()
        for tree, settings in drawn_questions(3, some_trees(4) + drawn_trees(4, 40, [5, 6, 7])):
            lot = drawn_lot(rng, many_of(tree))
            for lamps in (answers(tree, settings, lot), answers(tree, settings, ()), [rng.randint(0, 1) for _ in settings]):
                trials = list(zip(settings, lamps))
                worth = plain_told(tree, trials)
                seen.add(worth is None)
                self.gives(worth, told_shows(as_lists(tree), as_lists(trials)))
        self.assertEqual(seen, {True, False})

    def test_what_is_told_is_so_in_all_states_that_fit(self):
        rng = random.Random(5)
        for tree, settings in drawn_questions(6, some_trees(3) + drawn_trees(7, 20, [4, 5])):
            trials = [(at, rng.randint(0, 1)) for at in settings]
            told = told_shows(tree, trials)
            for lot in states_of(many_of(tree)):
                if all(lamp(tree, broken(at, lot)) == seen for at, seen in trials):
                    dead = dict(lot)
                    self.assertTrue(all(dead.get(lever, stands) == shows for lever, stands, shows in told))
            if told is None:
                self.gives(0, fitting_total(tree, trials))

    def test_examples(self):
        self.gives(((0, 0, 1), (0, 1, 1), (1, 0, 0), (1, 1, 1), (2, 0, 0)),
                   told_shows(OTHER, [((1, 1, 0), 1), ((1, 0, 0), 0), ((0, 1, 0), 1)]))
        self.gives((), told_shows(OTHER, []))
        self.gives(None, told_shows(OTHER, [((1, 1, 0), 1), ((1, 1, 0), 0)]))
        self.gives(((0, 0, 1), (0, 1, 0)), told_shows(0, [((0,), 1), ((1,), 0)]))
        self.gives(None, told_shows(0, [((0,), 1), ((0,), 0)]))
        self.gives(None, told_shows(flat_tree(2), [((1, 0), 1), ((0, 1), 1), ((0, 0), 0)]))
        self.gives(None, told_shows(flat_tree(2, "any"), [((1, 0), 0), ((0, 1), 0), ((1, 1), 1)]))
        self.gives(((0, 0, 0), (1, 0, 0), (1, 1, 1)), told_shows(flat_tree(2, "any"), [((0, 1), 1), ((0, 0), 0)]))

    def test_limits(self):
        rng = random.Random(8)
        for tree, settings in LIMITS:
            lot = drawn_lot(rng, many_of(tree))
            for lots in ((), lot):
                trials = [(at, lamp(tree, broken(at, lots))) for at in settings]
                dead = dict(lots)
                told = told_shows(tree, trials)
                self.assertTrue(all(dead.get(lever, stands) == shows for lever, stands, shows in told))

    def test_errors(self):
        trial = ((0, 1, 0), 1)
        self.fails(BadTree, 0, told_shows, ("all", (0,)), None)
        self.fails(BadTree, 1, told_shows, ("any", (1, 0)), None)
        self.fails(BadList, -1, told_shows, OTHER, [trial] * 401)
        for value in ANY_VALUES:
            if not (isinstance(value, (list, tuple)) and len(value) <= 400):
                self.fails(BadList, -1, told_shows, OTHER, value)
            self.fails(BadList, 1, told_shows, OTHER, [trial, value, None])
            self.fails(BadList, 0, told_shows, OTHER, [(value, 0) if not same(value, (0, 1, 2)) else None])
            if not (same(value, 0) or same(value, 1)):
                self.fails(BadList, 2, told_shows, OTHER, [trial, trial, (trial[0], value)])


class TellingTest(Case):

    def test_plain_search(self):
        seen = set()
        for tree, settings in drawn_questions(9, some_trees(4) + drawn_trees(10, 30, [5, 6])):
            settings = settings + drawn_list(random.Random(11), many_of(tree), 3 * many_of(tree))
            told = plain_told(tree, [(at, lamp(tree, at)) for at in settings])
            self.assertTrue(all(stands == shows for _, stands, shows in told))
            worth = len(told) == 2 * many_of(tree)
            seen.add(worth)
            self.gives(worth, is_telling(as_lists(tree), as_lists(settings)))
            if worth:
                self.gives(None, let_by(tree, settings))
        self.assertEqual(seen, {True, False})

    def test_least_lists_tell(self):
        for tree in some_trees(4) + drawn_trees(12, 30, [5, 7, 12, 30]):
            _, ups, downs = least_list(tree)
            self.gives(True, is_telling(tree, ups + downs))
            self.gives(False, is_telling(tree, ups + downs[1:]))

    def test_examples_and_limits(self):
        self.gives(True, is_telling(OTHER, [(1, 1, 0), (1, 0, 0), (0, 1, 0), (1, 0, 1)]))
        self.gives((False, False, True), (is_telling(OTHER, ()), is_telling(0, [(0,)]), is_telling(0, [(0,), (1,)])))
        for tree in drawn_trees(13, 10, [3, 4]):
            self.gives(True, is_telling(tree, settings_of(many_of(tree))))
        for tree, settings in LIMITS:
            worth = len(told_shows(tree, [(at, lamp(tree, at)) for at in settings])) == 2 * many_of(tree)
            self.gives(worth, is_telling(tree, settings))

    def test_errors(self):
        for call in (is_telling, best_trial):
            self.fails(BadTree, 0, call, ("all", (0,)), None)
            self.fails(BadTree, 1, call, ("all", (0, 2)), None)
            self.fails(BadList, -1, call, OTHER, [(0, 0, 0)] * 401)
            self.fails(BadList, 1, call, OTHER, [(0, 0, 0), (0, 0, 2)])
            for value in ANY_VALUES:
                if not (isinstance(value, (list, tuple)) and len(value) <= 400):
                    self.fails(BadList, -1, call, OTHER, value)
                self.fails(BadList, 1, call, PAIRS, [(0, 0, 0, 0), value])


class BestTest(Case):

    def test_plain_search(self):
        for tree, settings in drawn_questions(14, some_trees(4) + drawn_trees(15, 30, [5, 6])):
            missing = set(uncleared(tree, settings))
            setting, many = best_trial(as_lists(tree), as_lists(settings))
            self.assertTrue(same(setting, tuple(setting)) and len(setting) == many_of(tree))
            self.gives(many, len(plain_clears(tree, setting) & missing))
            self.gives(many, max(len(plain_clears(tree, at) & missing) for at in settings_of(many_of(tree))))

    def test_examples_and_limits(self):
        self.gives(2, best_trial(PAIRS, [])[1])
        self.gives(0, best_trial(PAIRS, settings_of(4))[1])
        self.gives((1, 0), (best_trial(0, [(1,)])[1], best_trial(0, [(1,), (0,)])[1]))
        self.gives(((1,) * 200, 200), best_trial(flat_tree(200), ()))
        for tree, settings in LIMITS:
            setting, many = best_trial(tree, settings)
            left = uncleared(tree, settings + [setting] if len(settings) < 400 else settings[1:] + [setting])
            if len(settings) < 400:
                self.gives(many, len(uncleared(tree, settings)) - len(left))


if __name__ == "__main__":
    unittest.main()
