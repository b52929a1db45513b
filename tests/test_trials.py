"""Points 14 to 17: wishes, what lacks, what can be left out, drawn settings."""

import itertools
import random
import unittest

from deadlevers.errors import BadList, BadTree, NoLever, Refused, TooGreat
from deadlevers.hanging import is_clearing
from deadlevers.trees import tree_lamp
from deadlevers.trials import (best_setting, completed, dear_levers, hung_count, hung_numbers, kept_settings, lacking,
                               shortest, spare_settings, wish_count, wish_list)
from deadlevers.updown import trial_counts
from helpers import (ANY_VALUES, GREAT_TREES, Case, as_lists, chain_tree, drawn_list, drawn_setting, drawn_trees,
                     flat_tree, lamp, many_of, pairs_tree, plain_cleared, plain_clears, plain_hung, same, settings_of,
                     some_trees, turned)


def cleared_sets(tree, place):
    """The sets of levers that single settings clear in a place."""
    found = {frozenset(lever for lever, where in plain_clears(tree, at) if where == place)
             for at in settings_of(many_of(tree))}
    return [levers for levers in found if levers]


def plain_wishes(tree, wishes, place):
    """The fewest settings, by going from wishes to lesser wishes."""
    sets = cleared_sets(tree, place)
    reached, count = {tuple(wishes)}, 0
    while not any(max(left) == 0 for left in reached):
        reached = {tuple(wish - (wish > 0 and lever in levers) for lever, wish in enumerate(left))
                   for left in reached for levers in sets}
        count += 1
    return count


def plain_lacking(tree, settings, place):
    found = plain_cleared(tree, settings)
    return plain_wishes(tree, [int((lever, place) not in found) for lever in range(many_of(tree))], place)


class WishTest(Case):

    def holds(self, tree, wishes, place):
        count = wish_count(as_lists(tree), list(wishes), place)
        sets = cleared_sets(tree, place)
        dear = dear_levers(as_lists(tree), list(wishes), place)
        self.assertEqual(list(dear), sorted(set(dear)))
        self.assertEqual(sum(wishes[lever] for lever in dear), count)
        self.assertTrue(all(wishes[lever] > 0 for lever in dear))
        self.assertFalse(any(len(set(dear) & levers) > 1 for levers in sets))
        settings = wish_list(as_lists(tree), list(wishes), place)
        self.gives((count, True), (len(settings), isinstance(settings, tuple)))
        cleared = [plain_clears(tree, at) for at in settings]
        for lever, wish in enumerate(wishes):
            self.assertGreaterEqual(sum((lever, place) in found for found in cleared), wish)
        return count

    def test_plain_search(self):
        for tree in some_trees(3):
            for wishes in itertools.product(range(3), repeat=many_of(tree)):
                for place in (0, 1):
                    self.gives(plain_wishes(tree, wishes, place), self.holds(tree, wishes, place))

    def test_drawn_wishes(self):
        rng = random.Random(1)
        for tree in drawn_trees(1, 25, [4, 5]):
            wishes = [rng.randint(0, 2) for _ in range(many_of(tree))]
            for place in (0, 1):
                self.gives(plain_wishes(tree, wishes, place), self.holds(tree, wishes, place))
        for tree in drawn_trees(2, 20, [6, 7]):
            self.holds(tree, [rng.randint(0, 9) for _ in range(many_of(tree))], rng.randint(0, 1))

    def test_greatest_sum(self):
        """The count is the greatest sum of wishes of levers of which no setting clears two."""
        rng = random.Random(2)
        for tree in drawn_trees(3, 20, [5, 6]):
            wishes = [rng.randint(0, 5) for _ in range(many_of(tree))]
            for place in (0, 1):
                sets = cleared_sets(tree, place)
                sums = [0]
                for count in range(1, many_of(tree) + 1):
                    for levers in itertools.combinations(range(many_of(tree)), count):
                        if not any(len(found & set(levers)) > 1 for found in sets):
                            sums.append(sum(wishes[lever] for lever in levers))
                self.gives(max(sums), wish_count(tree, wishes, place))

    def test_no_wishes(self):
        for tree in some_trees(3) + [chain_tree(200)]:
            for place in (0, 1):
                none = (0,) * many_of(tree)
                self.gives((0, (), ()), (wish_count(tree, none, place), dear_levers(tree, none, place),
                                         wish_list(tree, none, place)))

    def test_all_wishes_one(self):
        for tree in some_trees(4) + list(GREAT_TREES):
            once = (1,) * many_of(tree)
            self.gives(trial_counts(tree), (wish_count(tree, once, 1), wish_count(tree, once, 0)))

    def test_great_wishes(self):
        most = (1000000,) * 200
        self.gives((200000000, 1000000), (wish_count(flat_tree(200), most, 0), wish_count(flat_tree(200), most, 1)))
        self.gives(tuple(range(200)), dear_levers(flat_tree(200), most, 0))
        self.gives(1000000, wish_count(0, [1000000], 0))
        self.fails(TooGreat, 400, wish_list, flat_tree(200), most, 1)
        self.fails(TooGreat, 400, wish_list, 0, (401,), 0)
        self.gives(((0,),) * 400, wish_list(0, (400,), 0))
        self.gives(((1,),) * 400, wish_list(0, (400,), 1))
        self.gives(400, len(wish_list(flat_tree(200), (2,) * 200, 0)))
        self.fails(TooGreat, 400, wish_list, flat_tree(200), (2,) * 199 + (3,), 0)

    def test_limits(self):
        rng = random.Random(4)
        for tree in GREAT_TREES:
            wishes = [rng.randint(0, 1) for _ in range(200)]
            for place in (0, 1):
                settings = wish_list(tree, wishes, place)
                self.assertEqual(len(settings), wish_count(tree, wishes, place))
                self.assertEqual({tree_lamp(tree, at) for at in settings}, {place})

    def test_best_setting(self):
        for tree in some_trees(4) + drawn_trees(5, 10, [6, 7]):
            for place in (0, 1):
                best = best_setting(as_lists(tree), place)
                most = max(len(levers) for levers in cleared_sets(tree, place))
                cleared = [lever for lever, where in plain_clears(tree, best) if where == place]
                self.gives((most, most), (len(cleared), trial_counts(tree)[place]))
        for tree in GREAT_TREES:
            for place in (0, 1):
                best = best_setting(tree, place)
                self.gives(place, tree_lamp(tree, best))
                self.gives(trial_counts(tree)[place], len(hung(tree, best)))

    def test_refused_wishes(self):
        for call in (wish_count, dear_levers, wish_list):
            self.fails(BadTree, 0, call, None, None, None)
            for value in ANY_VALUES + ((0, 1, 1000001), (0, True, 1), (0, 1), (-1, 0, 0), "012", (1, 1, 1, 1)):
                if not any(same(value, good) for good in ((0, 1, 2), (0, 1, 0))):
                    self.refuses(value, call, flat_tree(3), value, None)

    def test_refused_places(self):
        for value in ANY_VALUES:
            if not same(value, 0) and not same(value, 1):
                for call in (wish_count, dear_levers, wish_list):
                    self.refuses(value, call, 0, (1000000,), value)
                self.refuses(value, best_setting, 0, value)
        self.fails(BadTree, 1, best_setting, 1, None)


def hung(tree, setting):
    """The levers on which the lamp hangs, also of great trees: no others than these can put it right."""
    return [lever for lever in range(len(setting)) if lamp(tree, turned(setting, lever)) != lamp(tree, setting)]


class LackTest(Case):

    def test_plain_search(self):
        rng = random.Random(6)
        for tree in some_trees(3) + drawn_trees(7, 12, [4, 5]):
            many = many_of(tree)
            for count in (0, 1, 2, 4, 9):
                settings = drawn_list(rng, many, count)
                worth = (plain_lacking(tree, settings, 1), plain_lacking(tree, settings, 0))
                self.gives(worth, lacking(as_lists(tree), as_lists(settings)))
                whole = completed(as_lists(tree), as_lists(settings))
                self.gives(tuple(settings), whole[:count])
                self.gives(sum(worth) + count, len(whole))
                self.assertEqual(len(plain_cleared(tree, whole)), 2 * many)

    def test_added_settings(self):
        rng = random.Random(7)
        for tree in drawn_trees(8, 30, [3, 6, 9]):
            settings = []
            for _ in range(8):
                before = lacking(tree, settings)
                settings.append(drawn_setting(rng, many_of(tree)))
                less = [one - other for one, other in zip(before, lacking(tree, settings))]
                self.assertIn(less, [[0, 0], [0, 1], [1, 0]])

    def test_edges(self):
        for tree in some_trees(4) + list(GREAT_TREES):
            self.gives(trial_counts(tree), lacking(tree, ()))
            whole = completed(tree, ())
            self.gives((sum(trial_counts(tree)), True), (len(whole), is_clearing(tree, whole)))
            self.gives((0, 0), lacking(tree, whole))
            self.gives(whole, completed(tree, whole))

    def test_more_than_four_hundred(self):
        whole = completed(flat_tree(200), [(0,) * 200] * 400)
        self.gives((601, (0,) * 200), (len(whole), whole[399]))
        self.gives((1, 200), lacking(flat_tree(200), [(0,) * 200] * 400))

    def test_errors(self):
        for call in (lacking, completed, spare_settings, kept_settings):
            list_errors(self, call)


def list_errors(case, call, **more):
    case.fails(BadTree, 0, call, None, None, **more)
    for value in ANY_VALUES:
        if not isinstance(value, (list, tuple)) or len(value) > 400:
            case.fails(BadList, -1, call, flat_tree(4), value, **more)
        elif len(value) > 0:
            case.fails(BadList, 0, call, flat_tree(4), value, **more)
    case.fails(BadList, 1, call, 0, [(0,), [True], None], **more)


class LeaveOutTest(Case):

    def lists(self):
        rng = random.Random(9)
        for tree in some_trees(3) + drawn_trees(10, 15, [4, 6]):
            for count in (0, 1, 3, 6, 9):
                settings = drawn_list(rng, many_of(tree), count)
                yield tree, settings + settings[:1] if count == 3 else settings

    def test_spare(self):
        for tree, settings in self.lists():
            whole = plain_cleared(tree, settings)
            spare = [at for at in range(len(settings))
                     if plain_cleared(tree, settings[:at] + settings[at + 1:]) == whole]
            self.gives(tuple(spare), spare_settings(as_lists(tree), as_lists(settings)))

    def test_kept(self):
        for tree, settings in self.lists():
            whole = plain_cleared(tree, settings)
            kept = list(range(len(settings)))
            for at in reversed(range(len(settings))):
                if plain_cleared(tree, [settings[other] for other in kept if other != at]) == whole:
                    kept.remove(at)
            self.gives(tuple(kept), kept_settings(as_lists(tree), as_lists(settings)))

    def test_shortest(self):
        for tree, settings in self.lists():
            clears = [plain_clears(tree, at) for at in settings]
            whole = plain_cleared(tree, settings)
            tuples = (chosen for count in range(len(settings) + 1)
                      for chosen in itertools.combinations(range(len(settings)), count))
            worth = next(chosen for chosen in tuples if set().union(*[clears[at] for at in chosen]) == whole)
            self.gives(worth, shortest(as_lists(tree), as_lists(settings), most=2 ** len(settings)))
            for most in (1, 2, 5, 30, 2 ** len(settings) - 1):
                try:
                    self.gives(worth, shortest(tree, settings, most=max(most, 1)))
                except TooGreat as error:
                    self.assertEqual(error.most, max(most, 1))
                    self.assertGreater(2 ** len(settings), most)

    def test_shortest_at_its_limits(self):
        rng = random.Random(10)
        for tree in (pairs_tree(12), flat_tree(12), chain_tree(16), drawn_trees(11, 1, [14])[0]):
            settings = drawn_list(rng, many_of(tree), 16)
            found = shortest(tree, settings, most=65536)
            self.assertEqual(plain_cleared(tree, [settings[at] for at in found]), plain_cleared(tree, settings))
            self.assertLessEqual(len(found), len(kept_settings(tree, settings)))
            settings = drawn_list(rng, many_of(tree), 24)
            try:
                found = shortest(tree, settings, most=100000)
            except TooGreat as error:
                self.assertEqual(error.most, 100000)
            else:
                self.assertEqual(plain_cleared(tree, [settings[at] for at in found]), plain_cleared(tree, settings))
        triples = ("all", tuple(("any", (3 * at, 3 * at + 1, 3 * at + 2)) for at in range(3)))
        self.gives((), shortest(triples, [(0,) * 9] * 16, most=65536))

    def test_limits(self):
        rng = random.Random(12)
        for tree in GREAT_TREES:
            settings = list(completed(tree, drawn_list(rng, 200, 100)))
            self.gives(True, is_clearing(tree, [settings[at] for at in kept_settings(tree, settings)]))
            for at in spare_settings(tree, settings)[:2]:
                self.gives(True, is_clearing(tree, settings[:at] + settings[at + 1:]))
        settings = [(1,) * 200] + [turned((1,) * 200, lever) for lever in range(199)]
        self.gives((tuple(range(200)), ()), (kept_settings(flat_tree(200), settings * 2),
                                             spare_settings(flat_tree(200), settings)))
        self.gives(tuple(range(400)), spare_settings(flat_tree(200), settings * 2))
        self.gives((), kept_settings(flat_tree(200), [(0,) * 200] * 400))

    def test_errors(self):
        list_errors(self, shortest, most=5)


class DrawnTest(Case):

    def test_plain_search(self):
        for tree in some_trees(4) + drawn_trees(13, 8, [6, 8]):
            many = many_of(tree)
            counts = {0: [0] * (many + 1), 1: [0] * (many + 1)}
            hangs = [0] * many
            for setting in settings_of(many):
                levers = plain_hung(tree, setting)
                counts[lamp(tree, setting)][len(levers)] += 1
                for lever in levers:
                    hangs[lever] += lamp(tree, setting)
            for told in counts.values():
                while told[-1] == 0:
                    told.pop()
            self.gives((tuple(counts[0]), tuple(counts[1])), hung_numbers(as_lists(tree)))
            self.gives(tuple(hangs), tuple(hung_count(as_lists(tree), lever) for lever in range(many)))
            # Drawn settings clear, in the mean, twice this sum, divided by the number of settings.
            both = sum(at * number for told in hung_numbers(tree) for at, number in enumerate(told))
            self.assertEqual(both, 2 * sum(hangs))

    def test_limits(self):
        for tree in GREAT_TREES:
            dark, burning = hung_numbers(tree)
            self.assertEqual(sum(dark) + sum(burning), 2 ** 200)
            for numbers in (dark, burning):
                self.assertNotEqual(numbers[-1], 0)
                pairs = sum(at * number for at, number in enumerate(numbers))
                self.assertEqual(pairs, sum(hung_count(tree, lever) for lever in range(200)))
        self.gives(((2 ** 200 - 201, 200), (0,) * 200 + (1,)), hung_numbers(flat_tree(200)))
        self.gives(((0, 1), (0, 1)), hung_numbers(0))
        self.gives(1, hung_count(0, 0))

    def test_errors(self):
        self.fails(BadTree, 0, hung_numbers, None)
        self.fails(BadTree, 1, hung_count, 1, None)
        for value in ANY_VALUES:
            if not any(same(value, lever) for lever in (0, 1, 2)):
                self.fails(NoLever, value, hung_count, flat_tree(3), value)


if __name__ == "__main__":
    unittest.main()
