"""Points 71 and 72: exchanged knots beside dead levers."""

import itertools
import random
import unittest

from deadlevers.chains import is_chain
from deadlevers.errors import BadLot, BadSetting, BadTree, Refused
from deadlevers.hanging import is_clearing
from deadlevers.swapped import swap_holds, swap_story, swapped_lamp
from deadlevers.trees import tree_knots
from helpers import (ANY_VALUES, GREAT_TREES, Case, all_lots, as_lists, broken, chain_tree, drawn_list, drawn_lot,
                     drawn_setting, drawn_trees, has_only_tuples, lamp, many_of, other_word, pairs_tree, plain_clears, same,
                     settings_of, some_trees)

PAIRS = pairs_tree(4)
FORK = ("any", (0, ("all", (1, ("any", (2, 3)), ("any", (4, ("all", (5, 6))))))))


def plain_lamp(tree, lot, places, setting, at=()):
    """The lamp with the knots at some places exchanged."""
    if isinstance(tree, int):
        return dict(lot).get(tree, setting[tree])
    lamps = [plain_lamp(part, lot, places, setting, at + (index,)) for index, part in enumerate(tree[1])]
    word = other_word(tree[0]) if at in places else tree[0]
    return min(lamps) if word == "all" else max(lamps)


def drawn_places(rng, tree):
    return tuple(place for place in tree_knots(tree) if rng.random() < 0.4)


class LampTest(Case):

    def test_plain_walk(self):
        rng = random.Random(1)
        for tree in some_trees(4) + drawn_trees(2, 60, [5, 6, 9, 30]):
            many = many_of(tree)
            for _ in range(8):
                lot = rng.choice([(), drawn_lot(rng, many)])
                places, at = drawn_places(rng, tree), drawn_setting(rng, many)
                self.gives(plain_lamp(tree, lot, places, at), swapped_lamp(as_lists(tree), as_lists(lot), as_lists(places), list(at)))
                self.gives(plain_lamp(tree, lot, places, at), swapped_lamp(tree, lot, places, at))

    def test_great_trees(self):
        rng = random.Random(2)
        for tree in GREAT_TREES:
            places, at, lot = drawn_places(rng, tree), drawn_setting(rng, 200), drawn_lot(rng, 200)
            self.gives(plain_lamp(tree, lot, places, at), swapped_lamp(tree, lot, places, at))
            self.gives(lamp(tree, at), swapped_lamp(tree, [], [], at))

    def test_errors(self):
        at = (0, 0, 0, 0)
        for value in ANY_VALUES:
            if not any(same(value, places) for places in ((), [], [(0,)])):
                self.refuses(value, swapped_lamp, PAIRS, (), value, None)
            with self.assertRaises(BadSetting):
                swapped_lamp(PAIRS, [], [], value)
            with self.assertRaises((BadLot, Refused)) as caught:
                swapped_lamp(PAIRS, value, None, None)
            wrong = caught.exception
            self.assertTrue(isinstance(wrong, BadLot) or wrong.at is None)
        for places in ([(), ()], [(0,), ()], [(1,), (0,)], [(0, 0)], [(2,)], [(-1,)], [0], [(True,)], [None], ((), (0, 1)), "", [("0",)]):
            self.refuses(places, swapped_lamp, PAIRS, [(0, 1)], places, at)
        self.fails(BadTree, 0, swapped_lamp, ("all", (0,)), None, None, None)
        self.fails(BadLot, 1, swapped_lamp, PAIRS, [(0, 1), (0, 1)], None, None)
        self.fails(BadLot, -1, swapped_lamp, PAIRS, None, None, None)
        self.fails(Refused, None, swapped_lamp, PAIRS, (), None, None)
        self.fails(BadSetting, 1, swapped_lamp, PAIRS, (), [[0]], (0, 2, 0, 0))
        for value in ([()], [[]]):
            self.refuses(value, swapped_lamp, 0, (), value, (0,))
        self.gives(1, swapped_lamp(0, [], (), [1]))


class StoryTest(Case):

    def tells(self, tree):
        found = swap_story(as_lists(tree))
        if is_chain(tree):
            self.gives(None, found)
            return
        word, settings, lot, places = found
        self.assertTrue(word == "swap" and has_only_tuples(found) and len(places) == 1)
        self.assertLessEqual(len(settings), 2 * many_of(tree))
        self.assertTrue(is_clearing(tree, settings))
        self.assertIn(places[0], tree_knots(tree))
        for at in settings:
            self.assertEqual(lamp(tree, at), plain_lamp(tree, lot, places, at))
        self.assertTrue(swap_holds(tree, as_lists(found)))

    def test_trees(self):
        for tree in some_trees(5) + drawn_trees(3, 60, [6, 7, 10, 30]) + [PAIRS, pairs_tree(4, "any"), FORK]:
            self.tells(tree)
        for tree in GREAT_TREES:
            if is_chain(tree):
                self.gives(None, swap_story(tree))
            else:
                found = swap_story(tree)
                self.assertTrue(len(found[1]) <= 400 and swap_holds(tree, found))

    def test_chains_show_all(self):
        """Every clearing list shows all faults just in chains: each fault's right settings clear too little."""
        trees = [tree for tree in some_trees(4)] + [chain_tree(5), ("any", (0, ("all", (1, 2, 3)), 4))]
        for tree in trees:
            many = many_of(tree)
            settings = settings_of(many)
            own = {at: lamp(tree, at) for at in settings}
            clears = {at: plain_clears(tree, at) for at in settings}
            knots = tree_knots(tree)
            let = False
            for count in range(len(knots) + 1):
                for places in itertools.combinations(knots, count):
                    boxes = {at: plain_lamp(tree, (), places, at) for at in settings}
                    for lot in [()] + all_lots(many):
                        if lot or places:
                            right = [at for at in settings if boxes[broken(at, lot)] == own[at]]
                            let = let or len(set().union(*[clears[at] for at in right])) == 2 * many
            self.assertEqual(let, not is_chain(tree), tree)

    def test_errors(self):
        for call, more in ((swap_story, ()), (swap_holds, (None,))):
            self.fails(BadTree, 0, call, ("all", (0,)), *more)
            self.fails(BadTree, 1, call, ("any", (1, 0)), *more)


class HoldsTest(Case):

    def worth(self, tree, settings, lot, places):
        cleared = set().union(*[plain_clears(tree, at) for at in settings])
        return (len(cleared) == 2 * many_of(tree) and bool(lot or places) and
                all(plain_lamp(tree, lot, places, at) == lamp(tree, at) for at in settings))

    def test_bent_papers(self):
        rng = random.Random(4)
        held = [0, 0]
        for tree in [PAIRS, pairs_tree(4, "any"), FORK] + [tree for tree in drawn_trees(5, 40, [5, 6, 7]) if not is_chain(tree)]:
            many = many_of(tree)
            _, settings, lot, places = swap_story(tree)
            for _ in range(15):
                bent, dead, told = list(settings), lot, places
                kind = rng.randrange(4)
                if kind == 0:
                    bent[rng.randrange(len(bent))] = drawn_setting(rng, many)
                elif kind == 1:
                    at = rng.randrange(len(lot))
                    dead = lot[:at] + lot[at + 1:]
                elif kind == 2:
                    told = drawn_places(rng, tree)
                else:
                    del bent[rng.randrange(len(bent))]
                worth = self.worth(tree, bent, dead, told)
                held[worth] += 1
                self.gives(worth, swap_holds(tree, ("swap", bent, dead, told)))
        self.assertGreater(min(held), 20)

    def test_many_places(self):
        """Any number of places, any lot, of any clearing list."""
        rng = random.Random(6)
        held = [0, 0]
        for tree in [PAIRS, FORK] + drawn_trees(7, 20, [5, 6]):
            many = many_of(tree)
            for _ in range(40):
                lot = rng.choice([(), drawn_lot(rng, many)])
                places = drawn_places(rng, tree)
                settings = [at for at in settings_of(many) if plain_lamp(tree, lot, places, at) == lamp(tree, at)]
                if rng.random() < 0.3:
                    settings = settings[:-1] + drawn_list(rng, many, 1)
                worth = self.worth(tree, settings, lot, places)
                held[worth] += 1
                self.gives(worth, swap_holds(tree, ["swap", as_lists(settings), as_lists(lot), as_lists(places)]))
        self.assertGreater(min(held), 5)

    def test_nothing_wrong(self):
        self.gives(False, swap_holds(PAIRS, ("swap", tuple(settings_of(4)), (), ())))
        self.gives(False, swap_holds(0, ("swap", ((0,), (1,)), (), ())))

    def test_any_values(self):
        good = swap_story(PAIRS)
        for value in ANY_VALUES:
            self.gives(False, swap_holds(PAIRS, value))
            for at in range(4):
                if not (at == 2 and (same(value, ()) or same(value, []))) and not (
                        at == 3 and same(value, good[3])):
                    self.gives(False, swap_holds(PAIRS, good[:at] + (value,) + good[at + 1:]))
            self.gives(False, swap_holds(PAIRS, good + (value,)))
            self.gives(False, swap_holds(PAIRS, good[:3] + ((value,),))
                       if not (same(value, ()) or same(value, [])) else False)


if __name__ == "__main__":
    unittest.main()
