"""Points 29 to 34: the fewest trials, their lists, and how many there are."""

import itertools
import random
import unittest

from deadlevers.errors import BadTree, Refused
from deadlevers.hanging import is_clearing
from deadlevers.lists import doubtful_list, down_rows, least_list, least_lists, up_rows
from deadlevers.trees import tree_lamp
from deadlevers.updown import trial_counts
from helpers import (ANY_VALUES, GREAT_TREES, Case, all_deaths, all_lots, as_lists, broken, chain_tree, drawn_tree,
                     drawn_trees, flat_tree, lamp, many_of, pairs_tree, plain_cleared, plain_clears, plain_counts,
                     rising_lamps, same, settings_of, some_trees)


def clearing_sets(tree, place):
    """The settings with this lamp, and what they clear so."""
    return [(at, plain_clears(tree, at)) for at in settings_of(many_of(tree)) if lamp(tree, at) == place]


def fewest(tree, place):
    sets = [found for _, found in clearing_sets(tree, place)]
    for count in itertools.count():
        for chosen in itertools.combinations(sets, count):
            if len(set().union(*chosen)) == many_of(tree):
                return count


class CountTest(Case):

    def test_as_told(self):
        for tree in some_trees(4) + drawn_trees(1, 30, [6, 11, 40]):
            self.gives(plain_counts(tree), trial_counts(as_lists(tree)))

    def test_fewest(self):
        for tree in some_trees(4):
            self.gives((fewest(tree, 1), fewest(tree, 0)), trial_counts(tree))

    def test_limits(self):
        self.gives((1, 200), trial_counts(flat_tree(200)))
        self.gives((200, 1), trial_counts(flat_tree(200, "any")))
        self.gives((101, 100), trial_counts(chain_tree(200, "any")))
        self.gives((1, 1), trial_counts(0))

    def test_errors(self):
        for call in (trial_counts, least_list, least_lists):
            self.fails(BadTree, 0, call, ("all", (0,)))
            self.fails(BadTree, 1, call, 3)


def put(setting, values):
    for lever, place in values.items():
        setting[lever] = place


def told_list(tree, doubts):
    """As points 30 and 32 tell it, each setting of a part as a dict of its levers."""
    if isinstance(tree, int):
        return ([{tree: 1}] if (tree, 0) in doubts else [], [{tree: 0}] if (tree, 1) in doubts else [])
    parts = [told_list(part, doubts) for part in tree[1]]
    kind = 0 if tree[0] == "all" else 1
    levers = [levers_in(part) for part in tree[1]]

    def first(at):
        own = parts[at][kind]
        return own[0] if own else {lever: 1 - kind for lever in levers[at]}

    rows = []
    for row in range(max(len(part[kind]) for part in parts)):
        setting = {}
        for at, part in enumerate(parts):
            setting.update(part[kind][row] if row < len(part[kind]) else first(at))
        rows.append(setting)
    singles = []
    for at, part in enumerate(parts):
        for own in part[1 - kind]:
            setting = {}
            for beside in range(len(parts)):
                setting.update(own if beside == at else first(beside))
            singles.append(setting)
    return (rows, singles) if kind == 0 else (singles, rows)


def levers_in(part):
    return [part] if isinstance(part, int) else [lever for inner in part[1] for lever in levers_in(inner)]


def as_settings(rows, many):
    return tuple(tuple(row[lever] for lever in range(many)) for row in rows)


def told_paper(tree, doubts):
    ups, downs = told_list(tree, doubts)
    return ("list", as_settings(ups, many_of(tree)), as_settings(downs, many_of(tree)))


def box_lamps(tree, settings):
    """The rows of lamps, at some settings, of all boxes of the tree's shape, with the number of ways to make each.

    Levers may be alive, dead, turned; knots may have any rising rules.
    """
    if isinstance(tree, int):
        own = tuple(at[tree] for at in settings)
        faults = [own, tuple(1 - place for place in own), (0,) * len(own), (1,) * len(own)]
        return [(row, at == 0) for at, row in enumerate(faults)]
    parts = [box_lamps(part, settings) for part in tree[1]]
    count = len(parts)
    right = tuple(int(min(values) if tree[0] == "all" else max(values))
                  for values in (number[::-1] for number in itertools.product((0, 1), repeat=count)))
    found = []
    for chosen in itertools.product(*parts):
        whole = all(own for _, own in chosen)
        for rule in rising_lamps(count):
            row = tuple(rule[sum(lamps[at] << i for i, (lamps, _) in enumerate(chosen))] for at in range(len(settings)))
            found.append((row, whole and rule == right))
    return found


class LeastListTest(Case):

    def test_as_told(self):
        for tree in some_trees(4) + drawn_trees(2, 30, [6, 9, 30]):
            paper = least_list(as_lists(tree))
            self.gives(told_paper(tree, all_deaths(many_of(tree))), paper)
            self.gives(paper, doubtful_list(tree, all_deaths(many_of(tree))))
            self.assertEqual((len(paper[1]), len(paper[2])), trial_counts(tree))

    def test_each_is_needed(self):
        for tree in some_trees(4) + drawn_trees(3, 10, [7]):
            settings = least_list(tree)[1] + least_list(tree)[2]
            whole = set(all_deaths(many_of(tree)))
            self.assertEqual(plain_cleared(tree, settings), whole)
            for at in range(len(settings)):
                self.assertNotEqual(plain_cleared(tree, settings[:at] + settings[at + 1:]), whole)

    def test_it_tells_the_tree_from_all_of_its_shape(self):
        for tree in some_trees(3) + [tree for tree in some_trees(4) if many_of(tree) == 4][::7]:
            settings = least_list(tree)[1] + least_list(tree)[2]
            own = tuple(lamp(tree, at) for at in settings)
            sound = [whole for row, whole in box_lamps(tree, settings) if row == own]
            self.assertEqual(sound, [True])

    def test_it_shows_each_lot(self):
        for tree in (("all", (("any", (0, ("all", (1, 2)))), ("any", (3, ("all", (4, 5)))))), drawn_trees(4, 1, [7])[0]):
            settings = least_list(tree)[1] + least_list(tree)[2]
            for lot in all_lots(many_of(tree)):
                self.assertTrue(any(lamp(tree, at) != lamp(tree, broken(at, lot)) for at in settings))

    def test_limits(self):
        for tree in GREAT_TREES:
            kind, ups, downs = least_list(tree)
            self.assertEqual((kind, len(ups), len(downs)), ("list",) + trial_counts(tree))
            self.assertTrue(is_clearing(tree, ups + downs))
            self.assertEqual([tree_lamp(tree, at) for at in ups + downs], [1] * len(ups) + [0] * len(downs))
        self.gives(("list", ((1,),), ((0,),)), least_list(0))


class DoubtTest(Case):

    def test_as_told(self):
        for tree in some_trees(3):
            deaths = all_deaths(many_of(tree))
            for count in range(len(deaths) + 1):
                for doubts in itertools.combinations(deaths, count):
                    self.gives(told_paper(tree, doubts), doubtful_list(as_lists(tree), as_lists(doubts)))
        rng = random.Random(5)
        for tree in drawn_trees(6, 30, [5, 8, 20]):
            deaths = all_deaths(many_of(tree))
            doubts = sorted(rng.sample(deaths, rng.randint(0, len(deaths))))
            self.gives(told_paper(tree, doubts), doubtful_list(tree, doubts))

    def test_what_holds(self):
        rng = random.Random(7)
        for tree in some_trees(3) + drawn_trees(8, 20, [4, 5]):
            deaths = all_deaths(many_of(tree))
            doubts = sorted(rng.sample(deaths, rng.randint(0, len(deaths))))
            _, ups, downs = doubtful_list(tree, doubts)
            for lot in all_lots(many_of(tree)):
                if set(lot) <= set(doubts):
                    self.assertTrue(any(lamp(tree, at) != lamp(tree, broken(at, lot)) for at in ups + downs))
            self.assertEqual(len(ups), self.fewest(tree, [lever for lever, place in doubts if place == 0], 1))
            self.assertEqual(len(downs), self.fewest(tree, [lever for lever, place in doubts if place == 1], 0))

    def fewest(self, tree, levers, place):
        """The fewest settings with a lamp that clear some levers there."""
        wanted = {(lever, place) for lever in levers}
        sets = [found for _, found in clearing_sets(tree, place)]
        for count in itertools.count():
            for chosen in itertools.combinations(sets, count):
                if wanted <= set().union(*chosen):
                    return count

    def test_edges(self):
        for tree in some_trees(3) + list(GREAT_TREES):
            self.gives(("list", (), ()), doubtful_list(tree, ()))
        self.gives(("list", ((1,),), ()), doubtful_list(0, [[0, 0]]))
        self.gives(("list", (), ((0,),)), doubtful_list(0, [[0, 1]]))
        for tree in GREAT_TREES:
            self.gives(least_list(tree), doubtful_list(tree, all_deaths(200)))

    def test_refused(self):
        bad = ([(1, 0), (0, 0)], [(0, 1), (0, 0)], [(0, 0), (0, 0)], [(3, 0)], [(0, 2)], [(0, False)], [(True, 0)],
               [(0, 0, 0)], [(0,)], [None], ["01"], [0], "00", [(0, 0), (1, -1)], [(-1, 0)])
        for value in bad + ANY_VALUES:
            good = isinstance(value, (list, tuple)) and all(
                isinstance(item, (list, tuple)) and any(same(tuple(item), death) for death in all_deaths(3))
                for item in value) and list(value) == sorted({tuple(item): item for item in value}.values())
            if good:
                doubtful_list(flat_tree(3), value)
            else:
                self.refuses(value, doubtful_list, flat_tree(3), value)
        self.fails(BadTree, 0, doubtful_list, None, None)


def plain_rows(tree, many, place):
    sets = [found for _, found in clearing_sets(tree, place)]
    return sum(len(set().union(*row)) == many_of(tree) for row in itertools.product(sets, repeat=many))


class RowsTest(Case):

    def test_plain_search(self):
        for tree in some_trees(3) + [flat_tree(4), pairs_tree(4), chain_tree(4)]:
            for many in range(4 if many_of(tree) < 4 else 3):
                self.gives(plain_rows(tree, many, 1), up_rows(as_lists(tree), many))
                self.gives(plain_rows(tree, many, 0), down_rows(as_lists(tree), many))

    def test_long_rows(self):
        """Rows that clear all, counted by what they miss: all rows but those within fewer kinds of clearing."""
        for tree in some_trees(3):
            for place, call in ((1, up_rows), (0, down_rows)):
                sets = [found for _, found in clearing_sets(tree, place)]
                deaths = [(lever, place) for lever in range(many_of(tree))]
                for many in (5, 11, 60):
                    total = 0
                    for count in range(len(deaths) + 1):
                        for missed in itertools.combinations(deaths, count):
                            left = sum(not found & set(missed) for found in sets)
                            total += (-1) ** count * left ** many
                    self.gives(total, call(tree, many))

    def test_edges(self):
        for tree in some_trees(3):
            self.gives((0, 0), (up_rows(tree, 0), down_rows(tree, 0)))
        self.gives((1, 1), (up_rows(0, 60), down_rows(0, 60)))

    def test_limits(self):
        for tree in (flat_tree(40), chain_tree(40), pairs_tree(40), drawn_tree(random.Random(9), 40)):
            for many, call, at in ((60, up_rows, 0), (60, down_rows, 1)):
                self.assertEqual(call(tree, many) > 0, trial_counts(tree)[at] <= 60)
                self.assertEqual(call(tree, trial_counts(tree)[at] - 1), 0)
            self.assertGreater(least_lists(tree), 0)

    def test_refused(self):
        for call in (up_rows, down_rows):
            self.fails(BadTree, 0, call, None, None)
            self.fails(Refused, 61, call, 0, 61)
            self.fails(Refused, -1, call, 0, -1)
            for value in ANY_VALUES:
                if type(value) is not int or not 0 <= value <= 60:
                    self.refuses(value, call, flat_tree(2), value)


class LeastListsTest(Case):

    def plain_sets(self, tree, place):
        sets = [found for _, found in clearing_sets(tree, place)]
        count = trial_counts(tree)[1 - place]
        return sum(len(set().union(*chosen)) == many_of(tree) for chosen in itertools.combinations(sets, count))

    def test_plain_search(self):
        for tree in some_trees(4) + [chain_tree(5), chain_tree(5, "any")]:
            worth = self.plain_sets(tree, 1) * self.plain_sets(tree, 0)
            self.gives(worth, least_lists(as_lists(tree)))
            knots = isinstance(tree, tuple) and any(isinstance(part, tuple) for part in tree[1])
            if knots:
                self.assertGreater(worth, 1)

    def test_edges(self):
        self.gives((1, 1, 1), (least_lists(0), least_lists(flat_tree(40)), least_lists(flat_tree(40, "any"))))


if __name__ == "__main__":
    unittest.main()
