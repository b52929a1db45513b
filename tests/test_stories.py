"""Points 27 and 28: stories of lists that let lots by."""

import itertools
import random
import unittest

from deadlevers.cores import core_box, found_tree, table_of
from deadlevers.court import box_honest, is_honest
from deadlevers.errors import BadTree, TooGreat
from deadlevers.stories import least_hidden, table_story, table_story_holds, tree_story, tree_story_holds
from deadlevers.tables import Table, tree_table
from deadlevers.updown import trial_counts
from helpers import (ANY_VALUES, GREAT_TREES, Case, all_lots, all_tables, as_lists, broken, chain_tree, drawn_list,
                     drawn_lot, drawn_rising, drawn_trees, flat_tree, full_tables, lamp, many_of, numbered_settings,
                     pairs_tree, plain_cleared, plain_table, rises, settings_of, some_trees, table_at, table_hangs)
from test_killers import BAD_TABLES

MAJORITY = Table([0, 0, 0, 1, 0, 1, 1, 1])
TALL = ("any", (0, ("all", (1, 2))))
TWO = ("all", (TALL, ("any", (("all", (3, 4)), 5))))
MIRROR = ("any", (("all", (0, ("any", (1, 2)))), ("all", (("any", (3, 4)), 5))))
DEEP = ("any", (("all", (0, ("any", (1, ("all", (2, 3)))), 4, ("any", (("all", (5, 6)), 7)))), 8, 9))
# Two tall parts deep below other knots, with parts of all sizes beside and in them.
LOW = ("all", (0, ("any", (1, ("all", (2, ("any", (3, 4, ("all", (5, 6, ("any", (7, 8)))), ("all", (9, 10)))), 11,
                                       ("any", (("all", (12, 13)), ("all", (14, ("any", (15, 16)))))))), 17))))
SETTINGS = ((1, 0, 1, 1, 1, 0), (0, 1, 1, 0, 1, 1), (0, 0, 1, 0, 0, 1), (0, 1, 0, 1, 1, 1), (1, 0, 0, 0, 1, 0),
            (1, 1, 1, 1, 0, 0))
LOT = ((0, 0), (1, 1), (3, 1), (5, 0))


def lets_by(tree, settings, lot):
    return all(lamp(tree, broken(at, lot)) == lamp(tree, at) for at in settings)


def plain_story(tree, settings, lot):
    return len(plain_cleared(tree, settings)) == 2 * many_of(tree) and lets_by(tree, settings, lot)


def plain_table_story(table, settings, lot):
    cleared = {(lever, at[lever]) for at in settings for lever in table_hangs(table, at)}
    if len(cleared) < 2 * table.levers:
        return False
    return all(table_at(table, broken(at, lot)) == table_at(table, at) for at in settings)


def hidden_lots(table):
    """All lots that some clearing list of a full rising box lets by."""
    settings = settings_of(table.levers)
    clears = {at: {(lever, at[lever]) for lever in table_hangs(table, at)} for at in settings}
    found = []
    for lot in all_lots(table.levers):
        right = [at for at in settings if table_at(table, broken(at, lot)) == table_at(table, at)]
        if len(set().union(*[clears[at] for at in right])) == 2 * table.levers:
            found.append(lot)
    return found


def is_lot_list(value):
    """Whether any value is a lot of six levers, by the words of the point."""
    if not isinstance(value, (list, tuple)) or not value:
        return False
    if not all(isinstance(item, (list, tuple)) and len(item) == 2 for item in value):
        return False
    levers = [item[0] for item in value]
    places = [item[1] for item in value]
    if not all(type(item) is int for item in levers + places) or not set(places) <= {0, 1}:
        return False
    return set(levers) <= set(range(6)) and all(one < other for one, other in zip(levers, levers[1:]))


class TreeStoryTest(Case):

    def holds(self, tree):
        story = tree_story(as_lists(tree))
        self.gives(is_honest(tree), story is None)
        if story is None:
            return 0
        self.assertTrue(isinstance(story, tuple) and len(story) == 3 and story[0] == "story")
        _, settings, lot = story
        self.gives(sum(trial_counts(tree)), len(settings))
        self.gives((4, 4), (len(lot), len({lever for lever, _ in lot})))
        self.assertEqual(lot, tuple(sorted(lot)))
        self.assertTrue(plain_story(tree, settings, lot), (tree, story))
        self.gives(True, tree_story_holds(tree, story))
        self.gives(True, tree_story_holds(as_lists(tree), as_lists(story)))
        return 1

    def test_stories(self):
        found = sum(self.holds(tree) for tree in some_trees(4) + drawn_trees(1, 120, [7, 9, 12, 16]))
        self.assertGreater(found, 20)
        for tree in (TWO, MIRROR, DEEP, LOW):
            self.gives(1, self.holds(tree))

    def test_all_trees_of_six_levers_with_two_tall_parts(self):
        for words in (("all", "any"), ("any", "all")):
            for one, other in itertools.product(itertools.permutations(range(3)), repeat=2):
                sides = [(words[1], tuple(sorted([three[0], (words[0], tuple(sorted(three[1:])))],
                                                 key=lambda part: part if isinstance(part, int) else part[1][0])))
                         for three in (one, tuple(3 + lever for lever in other))]
                self.gives(1, self.holds((words[0], tuple(sides))))

    def test_edges(self):
        for tree in (0, flat_tree(2), flat_tree(5, "any"), chain_tree(7), pairs_tree(8), TALL):
            self.gives(None, tree_story(tree))

    def test_great_trees(self):
        wide = 0
        for tree in GREAT_TREES + tuple(drawn_trees(2, 4, [200])):
            story = tree_story(tree)
            self.gives(is_honest(tree), story is None)
            if story is not None:
                wide += 1
                self.gives(sum(trial_counts(tree)), len(story[1]))
                self.gives(True, tree_story_holds(tree, story))
        self.assertGreater(wide, 2)

    def test_errors(self):
        for call, more in ((tree_story, ()), (tree_story_holds, (None,))):
            self.fails(BadTree, 0, call, ("all", (0,)), *more)
            self.fails(BadTree, 1, call, ("all", (1, 0)), *more)


class TreeStoryHoldsTest(Case):

    def test_drawn_values(self):
        rng = random.Random(3)
        holding = 0
        for _ in range(2000):
            settings = list(SETTINGS) if rng.random() < 0.5 else drawn_list(rng, 6, rng.randint(0, 12))
            lot = LOT if rng.random() < 0.5 else drawn_lot(rng, 6)
            if rng.random() < 0.3:
                settings = settings + drawn_list(rng, 6, rng.randint(1, 3))
            worth = plain_story(TWO, settings, lot)
            holding += worth
            self.gives(worth, tree_story_holds(TWO, ["story", settings, as_lists(lot)]))
        self.assertGreater(holding, 100)

    def test_bent_stories(self):
        good = ("story", SETTINGS, LOT)
        self.gives(True, tree_story_holds(TWO, good))
        for at in range(6):
            left = SETTINGS[:at] + SETTINGS[at + 1:]
            self.gives(plain_story(TWO, left, LOT), tree_story_holds(TWO, ("story", left, LOT)))
            for lever in range(6):
                bent = tuple(place if where != lever else 1 - place for where, place in enumerate(SETTINGS[at]))
                settings = SETTINGS[:at] + (bent,) + SETTINGS[at + 1:]
                self.gives(plain_story(TWO, settings, LOT), tree_story_holds(TWO, ("story", settings, LOT)))
        for lot in all_lots(6):
            self.gives(lets_by(TWO, SETTINGS, lot), tree_story_holds(TWO, ("story", SETTINGS, lot)))
        for value in (good[:2], good + (0,), ("Story",) + good[1:], ("story", LOT, SETTINGS), (SETTINGS, LOT),
                      ("story", SETTINGS, ()), ("story", SETTINGS, LOT[::-1]), ("story", SETTINGS, LOT + ((5, 0),)),
                      ("story", (), LOT), ("story", SETTINGS * 67, LOT), ("story", SETTINGS + ((0, 0, 0, 0, 0),), LOT),
                      ("story", SETTINGS + ((0, 0, 0, 0, 0, 2),), LOT), ("story", SETTINGS + ((0, 0, 0, 0, 0, True),), LOT),
                      ("story", SETTINGS, ((False, 0),) + LOT[1:]), ("story", SETTINGS, LOT[:3] + ((6, 0),)), [good]):
            self.gives(False, tree_story_holds(TWO, value))
        self.gives(True, tree_story_holds(TWO, ("story", SETTINGS * 66, LOT)))

    def test_any_value(self):
        for value in ANY_VALUES:
            for tree in (TWO, 0, flat_tree(2)):
                self.gives(False, tree_story_holds(tree, value))
                self.gives(False, tree_story_holds(tree, ("story", value, value)))
            self.gives(False, tree_story_holds(TWO, (value, SETTINGS, LOT)))
            self.gives(False, tree_story_holds(TWO, ("story", value, LOT)))
            worth = is_lot_list(value) and lets_by(TWO, SETTINGS, value)
            self.gives(worth, tree_story_holds(TWO, ("story", SETTINGS, value)))


class TableStoryTest(Case):

    def holds(self, table):
        story = table_story(table)
        self.gives(box_honest(table), story is None)
        if story is None:
            return
        _, settings, lot = story
        self.assertTrue(plain_table_story(table, settings, lot))
        self.gives(True, table_story_holds(table, story))
        self.gives(True, table_story_holds(table, as_lists(story)))
        if found_tree(table) is not None:
            self.gives((sum(trial_counts(found_tree(table))), 4), (len(settings), len(lot)))
        else:
            core = core_box(table)[0].levers
            self.assertLessEqual(len(settings), table.levers + core)
            self.gives(core - 1, len(lot))

    def test_stories(self):
        rng = random.Random(4)
        tables = full_tables(4) + [drawn_rising(rng, many) for many in [5] * 10 + [6] * 10 + [8] * 5]
        for table in tables + [plain_table(tree) for tree in drawn_trees(5, 20, [6, 7]) + [TWO, MIRROR]]:
            self.holds(table)

    def test_great_tables(self):
        rng = random.Random(6)
        for _ in range(4):
            self.holds(drawn_rising(rng, 10))
        for trees in ([("all", (0, 3, 4)), ("any", (1, 5, 6)), ("all", (2, ("any", (7, ("all", (8, 9))))))],
                      [("any", (0, ("all", (4, 5)))), 1, ("all", (("any", (2, 3)), ("any", (6, 7)), 8, 9))]):
            self.holds(table_of(MAJORITY, trees))
        for tree in (DEEP, flat_tree(10), chain_tree(10)):
            self.holds(tree_table(tree))

    def test_refused_tables(self):
        for table in BAD_TABLES:
            self.refuses(table, table_story, table)
            with self.assertRaises(Exception) as caught:
                least_hidden(table, most=1)
            self.assertIs(caught.exception.at, table)


class TableStoryHoldsTest(Case):

    def test_all_kinds_of_tables(self):
        rng = random.Random(7)
        holding = 0
        falling = 0
        for table in all_tables(2) + rng.sample(all_tables(3), 120) + [MAJORITY] * 20:
            for _ in range(12):
                lot = drawn_lot(rng, table.levers)
                settings = [at for at in settings_of(table.levers) if rng.random() < 0.5 or
                            table_at(table, broken(at, lot)) == table_at(table, at) and rng.random() < 0.9]
                worth = plain_table_story(table, settings, lot)
                holding += worth
                falling += worth and not rises(table)
                self.gives(worth, table_story_holds(table, ("story", settings, lot)))
        self.assertGreater(holding, 8)
        self.assertGreater(falling, 0)

    def test_bent_stories(self):
        _, settings, lot = table_story(MAJORITY)
        for bent in all_lots(3):
            self.gives(plain_table_story(MAJORITY, settings, bent), table_story_holds(MAJORITY, ("story", settings, bent)))
        for at in range(len(settings)):
            left = settings[:at] + settings[at + 1:]
            self.gives(plain_table_story(MAJORITY, left, lot), table_story_holds(MAJORITY, ("story", left, lot)))
        for value in (("story", settings), ("story", settings, lot, lot), ("tale", settings, lot), ("story", settings, ()),
                      ("story", settings + ((0, 0),), lot), ("story", settings, lot[::-1]), ("story", settings * 80, lot)):
            self.gives(False, table_story_holds(MAJORITY, value))

    def test_any_value(self):
        settings, lot = table_story(MAJORITY)[1:]
        for value in ANY_VALUES:
            self.gives(False, table_story_holds(MAJORITY, value))
            self.gives(False, table_story_holds(MAJORITY, ("story", value, lot)))
            self.gives(False, table_story_holds(MAJORITY, (value, settings, lot)))
            for table in (Table([0, 1]), Table([1, 1]), Table([0, 1, 1, 0])):
                self.gives(False, table_story_holds(table, ("story", value, [(0, 1)])))


class LeastHiddenTest(Case):

    def test_plain_search(self):
        rng = random.Random(8)
        tables = full_tables(4) + [drawn_rising(rng, 5) for _ in range(6)] + [plain_table(TWO), plain_table(MIRROR)]
        for table in tables:
            lots = hidden_lots(table)
            least = min(lots, key=lambda lot: (len(lot), lot)) if lots else None
            self.gives(least, least_hidden(table, most=20000))
            if least is None:
                self.gives(None, least_hidden(table, most=1))
                continue
            count = sum((len(lot), lot) <= (len(least), least) for lot in all_lots(table.levers))
            self.gives(least, least_hidden(table, most=count))
            for most in {1, count - 1} - {0, count}:
                try:
                    self.gives(least, least_hidden(table, most=most))
                except TooGreat as error:
                    self.gives(most, error.most)

    def test_great_tables(self):
        rng = random.Random(9)
        for table in [drawn_rising(rng, 10) for _ in range(4)] + [tree_table(DEEP)]:
            found = least_hidden(table, most=20000)
            self.assertLessEqual(2, len(found))
            self.assertLess(len(found), 10)
            right = [at for at in numbered_settings(10) if table_at(table, broken(at, found)) == table_at(table, at)]
            cleared = {(lever, at[lever]) for at in right for lever in table_hangs(table, at)}
            self.assertEqual(len(cleared), 20)
        self.gives(4, len(least_hidden(tree_table(DEEP), most=20000)))
        for tree in (flat_tree(10), chain_tree(10, "any"), 0):
            self.gives(None, least_hidden(tree_table(tree), most=1))

    def test_more_than_two_dead_levers(self):
        rng = random.Random(3)
        sizes = set()
        for table in [drawn_rising(rng, 6) for _ in range(60)]:
            found = least_hidden(table, most=728)
            if found is not None and found_tree(table) is None:
                sizes.add(len(found))
                if len(found) > 2:
                    self.gives(min(hidden_lots(table), key=lambda lot: (len(lot), lot)), found)
        self.assertLessEqual({2, 3}, sizes)


if __name__ == "__main__":
    unittest.main()
