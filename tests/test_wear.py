"""Point 82: levers that die between stretches of trials."""

import random
import time
import unittest

from deadlevers.court import is_honest
from deadlevers.errors import BadList, BadTree, TooGreat
from deadlevers.lists import least_list
from deadlevers.wear import Wear, wear_lots, wear_story, wear_words
from helpers import (ANY_VALUES, Case, all_lots, as_lists, broken, chain_tree, drawn_list, drawn_lot, drawn_setting, drawn_trees,
                     flat_tree, has_only_tuples, lamp, many_of, same, some_trees)

BOTH = ("all", (0, 1))
TWO = ("all", (("any", (0, ("all", (1, 2)))), ("any", (("all", (3, 4)), 5))))
CALLS = (wear_lots, wear_words, wear_story)


def fits(tree, lot, stretch):
    return all(lamp(tree, broken(setting, lot)) == seen for setting, seen in stretch)


def plain_lots(tree, log):
    """By stretch the lots that belong to some story, and whether there is a story."""
    lots = [()] + all_lots(many_of(tree))
    ahead = []
    for at, stretch in enumerate(log):
        own = [lot for lot in lots if fits(tree, lot, stretch)]
        ahead.append([lot for lot in own if at == 0 or any(set(other) <= set(lot) for other in ahead[-1])])
    for at in reversed(range(len(ahead) - 1)):
        ahead[at] = [lot for lot in ahead[at] if any(set(lot) <= set(other) for other in ahead[at + 1])]
    return tuple(tuple(sorted(own)) for own in ahead)


def plain_word(lots, lever):
    places = [dict(lot).get(lever) for lot in lots]
    if places.count(None) == len(places):
        return "alive"
    if None in places:
        return "open"
    return "dead" if len(set(places)) > 1 else ("down", "up")[places[0]]


def drawn_log(rng, tree, stretches, trials, wrong=0.1):
    """A log of levers that die, with some lamps seen wrong."""
    many = many_of(tree)
    lot, log = {}, []
    for _ in range(stretches):
        if rng.random() < 0.5:
            lever, place = drawn_lot(rng, many)[0]
            lot.setdefault(lever, place)
        settings = drawn_list(rng, many, rng.randint(0, trials))
        log.append([(at, lamp(tree, broken(at, lot.items())) ^ (rng.random() < wrong / (trials + 1))) for at in settings])
    return log


class WearTest(Case):

    def holds(self, tree, log):
        worth = plain_lots(tree, log)
        self.gives(worth, wear_lots(as_lists(tree), as_lists(log)))
        words = wear_words(tree, log)
        story = wear_story(tree, log)
        self.gives(() in worth, words is None)
        self.gives(() in worth, story is None)
        if words is None:
            return
        self.gives(tuple(tuple(plain_word(lots, lever) for lever in range(many_of(tree))) for lots in worth), words)
        self.assertTrue(has_only_tuples(story) and len(story) == len(log))
        for at, (lot, stretch) in enumerate(zip(story, log)):
            self.assertTrue(lot in worth[at] and fits(tree, lot, stretch))
            self.assertTrue(at == 0 or set(story[at - 1]) <= set(lot))
        if log:
            self.gives(min(map(len, worth[-1])), len(story[-1]))

    def test_plain_search(self):
        rng = random.Random(1)
        fitting = [0, 0]
        for tree in some_trees(3) * 6 + drawn_trees(2, 60, [3, 4, 5]) + [BOTH, TWO]:
            log = drawn_log(rng, tree, rng.randint(0, 4), rng.randint(1, 5), rng.choice([0, 0.3, 2]))
            fitting[wear_words(tree, log) is None] += 1
            self.holds(tree, log)
        self.assertGreater(min(fitting), 10)

    def test_every_story_is_told(self):
        """Stories one by one, for small trees and logs."""
        rng = random.Random(3)
        for tree in some_trees(2) + [("all", (0, ("any", (1, 2))))]:
            for _ in range(5):
                log = drawn_log(rng, tree, 3, 2, 0.5)
                lots = [()] + all_lots(many_of(tree))
                stories = [()]
                for stretch in log:
                    stories = [story + (lot,) for story in stories for lot in lots if fits(tree, lot, stretch) and
                               (not story or set(story[-1]) <= set(lot))]
                worth = tuple(tuple(sorted({story[at] for story in stories})) for at in range(3))
                self.gives(worth, wear_lots(tree, log))

    def test_clearing_stretches(self):
        """In honest trees all are alive in a clearing stretch with right lamps, and in those ahead."""
        rng = random.Random(4)
        for tree in [tree for tree in drawn_trees(5, 60, [3, 4, 5, 6]) if is_honest(tree)]:
            _, ups, downs = least_list(tree)
            right = [(at, lamp(tree, at)) for at in ups + downs]
            log = [[], [(at, lamp(tree, at)) for at in drawn_list(rng, many_of(tree), 1)], right, []]
            words = wear_words(tree, log)
            self.gives((("alive",) * many_of(tree),) * 3 + (("open",) * many_of(tree),), words)

    def test_edges(self):
        log = [[((1, 1), 1), ((0, 1), 0), ((1, 0), 0)], [((0, 1), 1)]]
        self.gives((("alive", "alive"), ("up", "open")), wear_words(BOTH, log))
        self.gives(((((),), (((0, 1),), ((0, 1), (1, 1))))), wear_lots(BOTH, log))
        self.gives(((), ((0, 1),)), wear_story(BOTH, log))
        self.gives(((), (), ()), tuple(call(BOTH, []) for call in CALLS))
        self.gives(((((),) + tuple([((0, 0),), ((0, 1),)])),), wear_lots(0, [[]]))
        self.gives((((),), (("open",),)), (wear_story(0, [[]]), wear_words(0, [()])))
        # One setting with both lamps: nothing fits, in no stretch.
        log = [[], [((0,), 0), ((0,), 1)], []]
        self.gives((((), (), ()), None, None), tuple(call(0, log) for call in CALLS))
        # Dead at either: dark where both are up.
        self.gives((("up",),), wear_words(0, [[((0,), 1)]]))
        self.gives((("open", "open"),), wear_words(BOTH, [[((1, 1), 0)]]))
        self.gives((("down",), ("down",)), wear_words(0, [[((1,), 0)], []]))
        # It can not come to life again.
        self.gives(None, wear_words(0, [[((1,), 0)], [((1,), 1)]]))

    def test_words(self):
        """Each word by its lots; no small log is known at which a lever must be dead, but at either place."""
        rng = random.Random(6)
        lots = [()] + all_lots(3)
        unlike = set()
        for _ in range(300):
            wear = Wear(("all", (0, ("any", (1, 2)))), [[]])
            told = rng.sample(lots, rng.randint(1, 5))
            wear.found = [sum(1 << wear.states.bit_of(lot) for lot in told)]
            self.gives(sorted(told), wear.states.lots_of(wear.found[0]))
            for lever in range(3):
                unlike.add(wear.word(0, lever))
                self.gives(plain_word(told, lever), wear.word(0, lever))
        self.assertEqual(unlike, {"alive", "up", "down", "dead", "open"})

    def test_limits(self):
        rng = random.Random(8)
        for tree in drawn_trees(9, 6, [6]) + [TWO, chain_tree(6), flat_tree(6)]:
            for stretches, trials in ((6, 12), (40, 1), (1, 40), (400, 2)):
                log = drawn_log(rng, tree, stretches, trials, 0)
                start = time.perf_counter()
                for call in CALLS:
                    call(tree, log)
                self.assertLess(time.perf_counter() - start, 4)
        self.holds(TWO, drawn_log(rng, TWO, 2, 12, 0))

    def test_errors(self):
        for call in CALLS:
            for value in ANY_VALUES:
                sequence = isinstance(value, (list, tuple))
                if sequence and len(value) == 0:
                    continue
                with self.assertRaises(BadList) as caught:
                    call(BOTH, value)
                self.gives(0 if sequence and len(value) <= 400 else -1, caught.exception.at)
                self.fails(BadList, 1, call, BOTH, [[], value] if not sequence else [[], [value]])
                self.fails(BadList, 2, call, BOTH, [[], (), [((0, 1), 0), value]])
            good = ((0, 1), 1)
            for wrong in (((0, 1),), ((0, 1), 2), ((0, 1), True), ((0,), 0), ((0, 1, 1), 0), ((0, 2), 0), (0, 0), ((0, 1), 1, 1), "01"):
                self.fails(BadList, 1, call, BOTH, [[good], [good, wrong], None])
            self.fails(BadList, -1, call, BOTH, [[]] * 401)
            self.fails(BadList, 1, call, BOTH, [[], [good] * 401])
            self.gives(400, len(call(BOTH, [[]] * 400)))
            self.fails(BadTree, 0, call, ("all", (0,)), None)
            self.fails(BadTree, 1, call, ("all", (1, 0)), None)
            for tree in (flat_tree(7), chain_tree(200)):
                self.fails(TooGreat, 6, call, tree, None)
            with self.assertRaises(BadTree):
                call(("all", tuple(range(201))), None)

    def test_same_as_told_by_lists(self):
        log = [[[drawn_setting(random.Random(1), 6), 1]], [[[0] * 6, 0]]]
        self.assertTrue(same(wear_words(TWO, log), wear_words(TWO, tuple(map(tuple, log)))))


if __name__ == "__main__":
    unittest.main()
