"""Points 79 and 80: deaths in doubt, and lamps at knots."""

import random
import time
import unittest

from deadlevers.court import is_honest, tall_place
from deadlevers.errors import BadList, BadLot, BadSetting, BadTree, Refused
from deadlevers.lamps import doubt_holds, doubt_paper, doubt_story, is_sure, lamp_clears, lamp_values
from helpers import (ANY_VALUES, GREAT_TREES, Case, all_deaths, all_lots, as_lists, broken, chain_tree, drawn_list, drawn_lot,
                     drawn_setting, drawn_tree, drawn_trees, flat_tree, has_only_tuples, many_of, mirror_words, pairs_tree,
                     part_of, same, some_trees)
from lamp_helpers import PlainLamps, all_lamps, drawn_doubts, drawn_lamps, inner_knots, shown_at

TWO = ("all", (("any", (0, ("all", (1, 2)))), ("any", (("all", (3, 4)), 5))))
DEEP = ("any", (("all", (0, ("any", (1, ("all", (2, ("any", (3, 4)))), 5)), ("any", (6, 7)))), ("all", (8, ("any", (9, 10))))))
ANY_LAMPS = ([()], [(0,), (0,)], [(1,), (0,)], [(0, 0)], [(2,)], [0], (0,), [None], [(0, 1), (0,)], [(), (0,)], "", [(True,)], [("0",)])
GOOD_LAMPS = ((), [], [(0,)], ((0, 1),))
ANY_DOUBTS = ([(0, 0), (0, 0)], [(0, 1), (0, 0)], [(6, 0)], [(0, 2)], [0], [(0,)], (0, 0), "", [(0, 0, 0)], [(True, 0)])


def seen_parts(tree, lamps, place=()):
    """The parts seen from above of the part at a place, it too, with their places; none if it has a lamp."""
    if place in lamps:
        return []
    found = [(place, part_of(tree, place))]
    if not isinstance(found[0][1], int):
        for at in range(len(found[0][1][1])):
            found += seen_parts(tree, lamps, place + (at,))
    return found


def sees(tree, lamps, doubts, place, stuck):
    return any(isinstance(part, int) and (part, stuck) in doubts for _, part in seen_parts(tree, lamps, place))


def plain_two_way(tree, lamps, doubts, place, word):
    """Whether the part at a place is two way for a word, as point 80 tells it."""
    first = 1 if word == "all" else 0
    for inner, part in seen_parts(tree, lamps, place):
        if not isinstance(part, int) and part[0] != word:
            for i in range(len(part[1])):
                for j in range(len(part[1])):
                    if i != j and not isinstance(part[1][i], int) and sees(tree, lamps, doubts, inner + (i,), first) and sees(
                            tree, lamps, doubts, inner + (j,), 1 - first):
                        return True
    return False


def plain_paper(tree, lamps, doubts):
    for place in [()] + inner_knots(tree) if not isinstance(tree, int) else []:
        knot = part_of(tree, place)
        two = [at for at in range(len(knot[1])) if plain_two_way(tree, lamps, doubts, place + (at,), knot[0])]
        if len(two) > 1:
            return ("doubt", place, (two[0], two[1]))
    return None


class ValueTest(Case):

    def test_plain_search(self):
        rng = random.Random(1)
        for tree in some_trees(4)[::3] + [TWO, DEEP] + drawn_trees(2, 60, [5, 7, 9]):
            many = many_of(tree)
            for _ in range(5):
                lamps, at = drawn_lamps(rng, tree), drawn_setting(rng, many)
                lot = rng.choice([(), drawn_lot(rng, many)])
                self.gives(all_lamps(tree, lamps, broken(at, lot)),
                           lamp_values(as_lists(tree), as_lists(lamps), list(at), as_lists(lot)))
                self.gives(all_lamps(tree, lamps, at), lamp_values(tree, lamps, at))
                settings = drawn_list(rng, many, rng.randint(0, 5))
                shown = set().union(*[shown_at(tree, lamps, setting) for setting in settings])
                worth = tuple(tuple(lever for lever in range(many) if (lever, stuck) in shown) for stuck in (0, 1))
                self.gives(worth, lamp_clears(as_lists(tree), as_lists(lamps), as_lists(settings)))

    def test_edges(self):
        self.gives(((1,), (0,)), (lamp_values(0, (), (1,)), lamp_values(0, [], [1], [(0, 0)])))
        self.gives(((0,), (0,)), lamp_clears(0, (), [(0,), (1,)]))
        self.gives(((), ()), lamp_clears(TWO, [(0,)], []))
        self.gives((0, 1, 0), lamp_values(TWO, [(0,), (1,)], (1, 0, 0, 0, 0, 0)))
        # Where the whole hangs on the dark part alone, a lamp of its own still hangs on a lever of the other.
        self.gives(((0,), (5,)), lamp_clears(TWO, [(0,)], [(1, 0, 0, 0, 0, 0)]))

    def test_great_trees(self):
        rng = random.Random(3)
        for tree in [chain_tree(60), pairs_tree(60), drawn_tree(rng, 60)] + list(GREAT_TREES[:2]):
            lamps, at = drawn_lamps(rng, tree), drawn_setting(rng, many_of(tree))
            self.gives(all_lamps(tree, lamps, at), lamp_values(tree, lamps, at))

    def test_errors(self):
        at = (0,) * 6
        for value in ANY_VALUES + ANY_LAMPS:
            if not any(same(value, lamps) for lamps in GOOD_LAMPS):
                self.refuses(value, lamp_values, TWO, value, None, None)
                self.refuses(value, lamp_clears, TWO, value, None)
            with self.assertRaises(BadSetting):
                lamp_values(TWO, [(0,)], value, None)
            if not (isinstance(value, (list, tuple)) and len(value) == 0):
                with self.assertRaises(BadList):
                    lamp_clears(TWO, (), value)
        self.fails(BadLot, -1, lamp_values, TWO, (), at, None)
        self.fails(BadLot, 1, lamp_values, TWO, (), at, [(1, 0), (0, 0)])
        self.fails(BadSetting, 5, lamp_values, TWO, (), (0, 0, 0, 0, 0, 2), None)
        self.fails(BadList, 1, lamp_clears, TWO, [], [at, at[1:]])
        for call, more in ((lamp_values, (None, None)), (lamp_clears, (None, None))):
            self.fails(BadTree, 0, call, ("all", (0,)), *more)
            self.fails(BadTree, 1, call, ("all", (1, 0)), *more)


class PaperTest(Case):

    def test_plain_walk(self):
        rng = random.Random(4)
        unlike = [0, 0]
        for tree in some_trees(4)[::5] + [TWO, DEEP, mirror_words(DEEP)] * 8 + drawn_trees(5, 250, [6, 8, 10, 14]):
            doubts = rng.choice([None, drawn_doubts(rng, many_of(tree), rng.choice([0.5, 0.9]))])
            lamps = drawn_lamps(rng, tree, rng.choice([0, 0.15, 0.4]))
            worth = plain_paper(tree, lamps, all_deaths(many_of(tree)) if doubts is None else doubts)
            unlike[worth is None] += 1
            told = {"doubts": None if doubts is None else as_lists(doubts), "lamps": as_lists(lamps)}
            self.gives(worth, doubt_paper(as_lists(tree), **told))
            self.gives(worth is None, is_sure(tree, doubts=doubts, lamps=lamps))
        self.assertGreater(min(unlike), 30)

    def test_sure_just_if_all_lots_are_shown(self):
        """Each list that shows all deaths in doubt by lamps shows every lot in doubt just if it is sure."""
        rng = random.Random(6)
        unlike = [0, 0]
        cases = [(TWO, (), all_deaths(6)), (TWO, (), ((0, 0), (1, 1), (3, 1), (5, 0))), (TWO, ((0,),), all_deaths(6)),
                 (TWO, ((0, 1),), all_deaths(6)), (TWO, (), ((0, 0), (1, 1), (3, 1)))]
        for tree in [TWO, mirror_words(TWO)] * 12 + drawn_trees(7, 40, [3, 4, 5, 6]):
            cases.append((tree, drawn_lamps(rng, tree, 0.2), drawn_doubts(rng, many_of(tree), rng.choice([0.6, 0.9]))))
        for tree, lamps, doubts in cases:
            sure = is_sure(tree, doubts=doubts, lamps=lamps)
            unlike[sure] += 1
            self.assertEqual(sure, not PlainLamps(tree, lamps).let_lots(doubts), (tree, lamps, doubts))
        self.assertGreater(min(unlike), 5)

    def test_no_lamps_all_doubts(self):
        for tree in [TWO, DEEP] + drawn_trees(8, 150, [5, 7, 9, 12]) + list(GREAT_TREES):
            self.gives(is_honest(tree), is_sure(tree))
            place = tall_place(tree)
            self.gives(None if place is None else ("doubt",) + place, doubt_paper(tree))

    def test_edges(self):
        self.gives((None, None), (doubt_paper(0), doubt_paper(TWO, doubts=[])))
        self.gives(("doubt", (), (0, 1)), doubt_paper(TWO, doubts=[(0, 0), (1, 1), (3, 1), (5, 0)]))
        self.gives(None, doubt_paper(TWO, lamps=inner_knots(TWO)))
        self.gives((True, True), (is_sure(0, doubts=[(0, 1)]), is_sure(0, doubts=(), lamps=[])))

    def test_errors(self):
        for call, more in ((doubt_paper, ()), (is_sure, ()), (doubt_story, ()), (doubt_holds, (None,))):
            for value in ANY_VALUES + ANY_DOUBTS:
                good = value is None or any(same(value, told) for told in (
                    (), [], [(0, 0), (0, 1)], ((0, 1),), [[0, 0]], [(1, 0), (0, 1)][::-1]))
                if not good:
                    self.fails(Refused, value, call, TWO, *more, doubts=value, lamps=None)
            for value in ANY_VALUES + ANY_LAMPS:
                if not any(same(value, lamps) for lamps in GOOD_LAMPS):
                    self.fails(Refused, value, call, TWO, *more, lamps=value)
            self.fails(BadTree, 0, call, ("all", (0,)), *more, doubts=0, lamps=0)
            self.fails(BadTree, 1, call, ("all", (1, 0)), *more, doubts=0)


class StoryTest(Case):

    def tells(self, tree, doubts, lamps):
        told = {"doubts": doubts, "lamps": lamps}
        found = doubt_story(as_lists(tree), **told)
        if is_sure(tree, **told):
            self.gives(None, found)
            return False
        self.assertTrue(has_only_tuples(found))
        kind, settings, lot = found
        deaths = all_deaths(many_of(tree)) if doubts is None else doubts
        self.assertTrue(kind == "story" and len(lot) == 4 and list(lot) == sorted(lot) and set(lot) <= set(deaths))
        self.assertLessEqual(len(settings), len(deaths))
        self.assertTrue(set().union(*[shown_at(tree, lamps, at) for at in settings]) >= set(deaths))
        for at in settings:
            self.assertEqual(all_lamps(tree, lamps, at), all_lamps(tree, lamps, broken(at, lot)))
        self.assertTrue(doubt_holds(tree, as_lists(found), **told))
        return True

    def test_stories(self):
        rng = random.Random(9)
        count = 0
        for tree in [TWO, mirror_words(TWO), DEEP] * 20 + drawn_trees(10, 300, [6, 8, 10, 14, 30]):
            doubts = rng.choice([None, drawn_doubts(rng, many_of(tree), 0.85)])
            count += self.tells(tree, doubts, drawn_lamps(rng, tree, rng.choice([0, 0.05, 0.2])))
        self.assertGreater(count, 60)

    def test_limits(self):
        rng = random.Random(11)
        for many in (30, 60):
            for tree in (drawn_tree(rng, many), drawn_tree(rng, many), chain_tree(many), flat_tree(many)):
                start = time.perf_counter()
                self.tells(tree, None, drawn_lamps(rng, tree, 0.05))
                self.assertLess(time.perf_counter() - start, 5)


class HoldsTest(Case):

    def test_bent_stories(self):
        rng = random.Random(12)
        held = [0, 0]
        for tree in [TWO, mirror_words(TWO)] * 6 + [tree for tree in drawn_trees(13, 150, [6, 7]) if not is_honest(tree)][:15]:
            many = many_of(tree)
            doubts, lamps = drawn_doubts(rng, many, 0.95), drawn_lamps(rng, tree, 0.1)
            found = doubt_story(tree, doubts=doubts, lamps=lamps)
            if found is None:
                continue
            plain = PlainLamps(tree, lamps)
            for _ in range(25):
                settings, lot = list(found[1]), list(found[2])
                kind = rng.randrange(5)
                if kind == 0:
                    settings[rng.randrange(len(settings))] = drawn_setting(rng, many)
                elif kind == 1:
                    del settings[rng.randrange(len(settings))]
                elif kind == 2:
                    settings += drawn_list(rng, many, 1)
                elif kind == 3:
                    at = rng.randrange(len(lot))
                    lot[at] = (lot[at][0], 1 - lot[at][1])
                else:
                    lot = sorted(dict(list(lot) + [drawn_lot(rng, many)[0]]).items())
                worth = (plain.shows(settings, doubts) and set(lot) <= set(doubts) and
                         all(plain.is_right(at, lot) for at in settings))
                held[worth] += 1
                self.gives(worth, doubt_holds(tree, ["story", settings, lot], doubts=doubts, lamps=lamps))
        self.assertGreater(min(held), 20)

    def test_greatest_lists(self):
        """Of any lot in doubt the list of all settings with right lamps."""
        rng = random.Random(14)
        for tree, lamps in ((TWO, ()), (TWO, ((1, 0),)), (mirror_words(TWO), ((0, 1),))):
            plain = PlainLamps(tree, lamps)
            doubts = drawn_doubts(rng, 6, 0.95)
            let = set(plain.let_lots(doubts))
            for lot in all_lots(6):
                settings = [at for at in plain.settings if plain.is_right(at, lot)]
                self.gives(lot in let, doubt_holds(tree, ("story", settings, lot), doubts=doubts, lamps=lamps))

    def test_any_values(self):
        good = doubt_story(TWO)
        for value in ANY_VALUES:
            self.gives(False, doubt_holds(TWO, value))
            for at in range(3):
                self.gives(False, doubt_holds(TWO, good[:at] + (value,) + good[at + 1:]))
            self.gives(False, doubt_holds(TWO, good + (value,)))
            self.gives(False, doubt_holds(TWO, ("story", good[1] + (value,), good[2])))
        self.gives(False, doubt_holds(TWO, good, doubts=all_deaths(6)[1:]))
        self.gives(False, doubt_holds(TWO, good, lamps=[(0,)]))
        self.gives(False, doubt_holds(TWO, ("story", (), ((0, 0),)), doubts=()))
        self.gives(False, doubt_holds(TWO, ("story", (), ()), doubts=()))


if __name__ == "__main__":
    unittest.main()
