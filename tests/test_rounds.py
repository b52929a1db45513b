"""Points 83 to 85: lists that are gone through again and again."""

import functools
import random
import time
import unittest

from deadlevers.errors import BadList, BadTree, Refused, TooGreat
from deadlevers.lists import least_list
from deadlevers.rounds import hiding_holds, hiding_paper, longest_hiding, round_delay, round_gaps
from deadlevers.updown import trial_counts
from helpers import (ANY_VALUES, GREAT_TREES, Case, all_deaths, all_lots, as_lists, broken, chain_tree, drawn_list, drawn_trees,
                     flat_tree, has_only_tuples, lamp, many_of, pairs_tree, same, some_trees)

BOTH = ("all", (0, 1))
LIST = [(1, 1), (0, 1), (1, 0)]
TWO = ("all", (("any", (0, ("all", (1, 2)))), ("any", (("all", (3, 4)), 5))))
CALLS = ((longest_hiding, ()), (hiding_paper, ()), (hiding_holds, (None,)))


def rights(tree, settings, lot):
    return [lamp(tree, broken(at, lot)) == lamp(tree, at) for at in settings]


def plain_gaps(tree, settings):
    """By death the most trials from any moment on to the first with a wrong lamp."""
    found = []
    for lever, place in all_deaths(many_of(tree)):
        right = rights(tree, settings, [(lever, place)])
        numbers = []
        for first in range(len(right)):
            turn = right[first:] + right[:first]
            numbers.append(turn.index(False) + 1 if False in turn else None)
        found.append((lever, place, None if None in numbers else max(numbers)))
    return tuple(found)


def plain_hiding(tree, settings, deaths):
    """The most trials in a row with right lamps, from all moments, whatever dies when."""
    lots = [lot for lot in all_lots(many_of(tree)) if len(lot) <= deaths]
    right = {lot: rights(tree, settings, lot) for lot in lots}
    if any(all(own) for own in right.values()):
        return None
    wider = {lot: [other for other in lots if set(lot) <= set(other)] for lot in lots}

    @functools.lru_cache(maxsize=None)
    def longest(first, lot):
        if not right[lot][first]:
            return 0
        return 1 + max(longest((first + 1) % len(settings), other) for other in wider[lot])

    return max(longest(first, lot) for first in range(len(settings)) for lot in lots)


def plain_run(tree, settings, deaths, first, lots):
    if not 0 <= first < len(settings):
        return False
    for at, lot in enumerate(lots):
        setting = settings[(first + at) % len(settings)]
        if len(lot) > deaths or lamp(tree, broken(setting, lot)) != lamp(tree, setting):
            return False
        if at and not set(lots[at - 1]) <= set(lot):
            return False
    return True


def least_settings(tree):
    _, ups, downs = least_list(tree)
    return list(ups + downs)


class GapTest(Case):

    def test_plain_search(self):
        rng = random.Random(1)
        for tree in some_trees(4)[::2] + drawn_trees(2, 60, [5, 7, 12]):
            many = many_of(tree)
            for settings in (drawn_list(rng, many, rng.randint(1, 9)), least_settings(tree) + drawn_list(rng, many, 3)):
                worth = plain_gaps(tree, settings)
                self.gives(worth, round_gaps(as_lists(tree), as_lists(settings)))
                numbers = [number for _, _, number in worth]
                self.gives(None if None in numbers else max(numbers), round_delay(tree, settings))

    def test_least_lists(self):
        """No delay is less than up + down, and the least list has it, in any order."""
        rng = random.Random(3)
        for tree in some_trees(4) + drawn_trees(4, 40, [6, 9, 30]) + list(GREAT_TREES):
            settings = least_settings(tree)
            if len(settings) > 400:
                continue
            rng.shuffle(settings)
            self.gives(sum(trial_counts(tree)), round_delay(tree, settings))
            more = settings + drawn_list(rng, many_of(tree), 3)
            self.assertGreaterEqual(round_delay(tree, more[:400]) or 400, sum(trial_counts(tree)))

    def test_edges(self):
        self.gives((3, ((0, 0, 3), (0, 1, 3), (1, 0, 3), (1, 1, 3))), (round_delay(BOTH, LIST), round_gaps(BOTH, LIST)))
        self.gives((((0, 0, 1), (0, 1, None)), None), (round_gaps(0, [(1,)]), round_delay(0, [(1,)])))
        self.gives(((0, 0, 2), (0, 1, 2)), round_gaps(0, [(1,), (0,)]))
        self.gives(((0, 0, 2), (0, 1, 4)), round_gaps(0, [(1,), (1,), (0,), (1,)]))

    def test_limits(self):
        rng = random.Random(5)
        for tree in GREAT_TREES[:1] + (pairs_tree(200), flat_tree(200, "any")):
            settings = drawn_list(rng, 200, 400)
            start = time.perf_counter()
            found = round_gaps(tree, settings)
            round_delay(tree, settings)
            self.assertLess(time.perf_counter() - start, 3)
            for lever, place, number in found[:10]:
                right = rights(tree, settings, [(lever, place)])
                self.gives(False in right, number is not None)

    def test_errors(self):
        for call in (round_gaps, round_delay):
            for value in ANY_VALUES:
                if isinstance(value, (list, tuple)) and len(value) == 0:
                    self.refuses(value, call, BOTH, value)
                elif not any(same(value, told) for told in ([(1, 0), (0, 1)], ((0, 1),), [[0, 0]], [(0, 0), (0, 1)], [(0, 0)] * 3)):
                    with self.assertRaises(BadList):
                        call(BOTH, value)
            self.fails(BadList, -1, call, BOTH, [(0, 0)] * 401)
            self.fails(BadList, 2, call, BOTH, [(0, 0), (0, 1), (0,)])
            self.fails(BadTree, 0, call, ("all", (0,)), None)
            self.fails(BadTree, 1, call, ("all", (1, 0)), [])


class HidingTest(Case):

    def holds(self, tree, settings, deaths):
        worth = plain_hiding(tree, settings, deaths)
        self.gives(worth, longest_hiding(as_lists(tree), as_lists(settings), deaths))
        if worth is not None:
            self.assertLessEqual(worth, deaths * (len(settings) - 1))
        paper = hiding_paper(tree, settings, deaths)
        self.assertTrue(has_only_tuples(paper))
        self.assertTrue(hiding_holds(tree, settings, deaths, as_lists(paper)))
        if worth is None:
            self.assertTrue(paper[0] == "always" and len(paper) == 2 and 1 <= len(paper[1]) <= deaths)
            self.assertTrue(all(rights(tree, settings, paper[1])))
        else:
            self.assertTrue(paper[0] == "run" and len(paper) == 3 and len(paper[2]) == worth)
            self.assertTrue(plain_run(tree, settings, deaths, paper[1], paper[2]))
        return worth

    def test_plain_search(self):
        rng = random.Random(6)
        found = set()
        for tree in some_trees(3) + drawn_trees(7, 60, [4, 5]) + [BOTH, TWO]:
            many = many_of(tree)
            for settings in (drawn_list(rng, many, rng.randint(1, 6)), rng.sample(least_settings(tree) * 2, len(least_settings(tree)) + 1),
                             least_settings(tree)):
                deaths = rng.randint(1, many if many < 5 else 3)
                found.add(self.holds(tree, settings, deaths))
        self.assertLessEqual({None, 0, 1, 2, 3, 4}, found | {0})

    def test_as_many_deaths_as_levers(self):
        for tree in some_trees(3):
            self.holds(tree, least_settings(tree), many_of(tree))

    def test_edges(self):
        self.gives((2, 4), (longest_hiding(BOTH, LIST, 1), longest_hiding(BOTH, LIST, 2)))
        self.gives((None, ("always", ((0, 1),))), (longest_hiding(0, [(1,)], 1), hiding_paper(0, [(1,)], 1)))
        self.gives((1, 1), (longest_hiding(0, [(1,), (0,)], 1), len(hiding_paper(0, [(1,), (0,)], 1)[2])))

    def test_one_setting(self):
        for tree in some_trees(3):
            for at in ((1,) * many_of(tree), (0,) * many_of(tree)):
                self.holds(tree, [at], 1)

    def test_limits(self):
        rng = random.Random(8)
        for tree in [TWO, chain_tree(6), flat_tree(6)] + drawn_trees(9, 3, [6]):
            least = least_settings(tree)
            for settings, deaths in (((least * 20)[:20], 6), (least + drawn_list(rng, 6, 20 - len(least)), 3),
                                     ([rng.choice(least) for _ in range(400)], 1), ([least[0]] * 390 + least[:10], 1)):
                start = time.perf_counter()
                longest = longest_hiding(tree, settings, deaths)
                paper = hiding_paper(tree, settings, deaths)
                self.gives(True, hiding_holds(tree, settings, deaths, paper))
                self.assertLess(time.perf_counter() - start, 5)
                self.gives("always" if longest is None else "run", paper[0])
                if deaths == 1 and longest is not None:
                    self.gives(longest + 1, round_delay(tree, settings))

    def test_errors(self):
        for call, more in CALLS:
            for value in ANY_VALUES + (3, 0, 1.0, "1"):
                if not (same(value, 1) or same(value, 2)):
                    self.refuses(value, call, BOTH, LIST, value, *more)
                if isinstance(value, (list, tuple)) and len(value) == 0:
                    self.refuses(value, call, BOTH, value, None, *more)
            for value in (None, 0, "", {}, [(0, 0)] * 401):
                self.fails(BadList, -1, call, BOTH, value, None, *more)
            self.fails(BadList, 1, call, BOTH, [(0, 0), (0, 2)], None, *more)
            self.fails(TooGreat, 6, call, flat_tree(7), None, None, *more)
            self.fails(BadTree, 0, call, ("all", (0,)), None, None, *more)
            self.fails(BadTree, 1, call, ("all", (1, 0)), None, None, *more)
            with self.assertRaises(BadTree):
                call(("all", tuple(range(201))), None, None, *more)


class HoldsTest(Case):

    def test_all_lots(self):
        rng = random.Random(10)
        held = [0, 0]
        for tree in some_trees(3) + drawn_trees(11, 10, [4, 5]):
            many = many_of(tree)
            settings, deaths = drawn_list(rng, many, 3), rng.randint(1, many)
            for lot in all_lots(many):
                worth = len(lot) <= deaths and all(rights(tree, settings, lot))
                held[worth] += 1
                self.gives(worth, hiding_holds(tree, settings, deaths, ["always", as_lists(lot)]))
        self.assertGreater(min(held), 20)

    def test_bent_runs(self):
        rng = random.Random(12)
        held = [0, 0]
        for tree in drawn_trees(13, 80, [2, 3, 4, 5]) + [BOTH] * 10:
            many = many_of(tree)
            settings, deaths = least_settings(tree), rng.randint(1, many)
            paper = hiding_paper(tree, settings, deaths)
            if paper[0] == "always":
                paper = ("run", 0, (paper[1],) * rng.randint(0, 9))
            for _ in range(10):
                first, lots = paper[1], list(paper[2])
                kind = rng.randrange(6)
                if kind == 0:
                    first = rng.randint(-1, len(settings))
                elif kind == 1:
                    lots = lots[:rng.randint(0, len(lots))]
                elif kind == 2 and lots:
                    lots += [lots[-1]]
                elif kind == 3 and lots:
                    lots[rng.randrange(len(lots))] = rng.choice(all_lots(many))
                elif kind == 4:
                    skip = rng.randint(0, len(lots))
                    first, lots = (first + skip) % len(settings), lots[skip:]
                else:
                    lots = lots[::-1]
                worth = plain_run(tree, settings, deaths, first, lots)
                held[worth] += 1
                self.gives(worth, hiding_holds(tree, settings, deaths, ("run", first, as_lists(lots))))
        self.assertGreater(min(held), 100)

    def test_shorter_rows(self):
        for first in range(3):
            self.gives(True, hiding_holds(BOTH, LIST, 1, ("run", first, ())))
            self.gives(first == 2, hiding_holds(BOTH, LIST, 1, ("run", first, [((0, 1),), ((0, 1),)])))
        self.gives(True, hiding_holds(0, [(1,)], 1, ("run", 0, [((0, 1),)] * 4000)))

    def test_any_values(self):
        for value in ANY_VALUES + (3, ((),), [()]):
            self.gives(False, hiding_holds(BOTH, LIST, 2, value))
            self.gives(False, hiding_holds(BOTH, LIST, 2, ("always", value)))
            self.gives(False, hiding_holds(BOTH, LIST, 2, ("run", 0, value)) and not same(value, ()) and not same(value, []))
            self.gives(False, hiding_holds(BOTH, LIST, 2, (value, 0, ())))
            self.gives(any(same(value, at) for at in (0, 1, 2)), hiding_holds(BOTH, LIST, 2, ("run", value, ())))
            self.gives(False, hiding_holds(BOTH, LIST, 2, ("run", 2, [((0, 1),), value])) and not same(value, ((0, 1),)))
            self.gives(False, hiding_holds(BOTH, LIST, 2, ("run", 0, (), value)))
        self.gives(False, hiding_holds(0, [(1,)], 1, ("always", ())))


if __name__ == "__main__":
    unittest.main()
