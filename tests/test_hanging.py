"""Points 12 and 13: what settings clear, and which levers together."""

import itertools
import random
import unittest

from deadlevers.errors import BadList, BadSetting, BadTree, Refused
from deadlevers.hanging import (cleared_levers, hung_levers, is_clearing, joint_holds, joint_paper, table_hung,
                                uncleared)
from deadlevers.pairs import pair_word
from deadlevers.tables import Table, tree_table
from helpers import (ANY_VALUES, GREAT_TREES, Case, all_deaths, all_tables, as_lists, chain_tree, drawn_list,
                     drawn_trees, flat_tree, lamp, many_of, plain_cleared, plain_clears, plain_hung, same, settings_of,
                     some_trees, table_hangs, turned)


def some_levers(many):
    return [levers for count in range(1, many + 1) for levers in itertools.combinations(range(many), count)]


class HungTest(Case):

    def test_trees(self):
        for tree in some_trees(4) + drawn_trees(1, 8, [6, 7]):
            for setting in settings_of(many_of(tree)):
                self.gives(plain_hung(tree, setting), hung_levers(as_lists(tree), list(setting)))

    def test_tables(self):
        rng = random.Random(1)
        tables = all_tables(2) + [Table([rng.randint(0, 1) for _ in range(16)]) for _ in range(10)]
        for table in tables:
            for setting in settings_of(table.levers):
                self.gives(table_hangs(table, setting), table_hung(table, list(setting)))

    def test_clearing_is_where_a_stuck_lever_shows(self):
        for tree in some_trees(3):
            for setting in settings_of(many_of(tree)):
                for lever in hung_levers(tree, setting):
                    self.assertEqual(setting[lever], lamp(tree, setting))
                    self.assertNotEqual(lamp(tree, turned(setting, lever)), lamp(tree, setting))

    def test_great_trees(self):
        self.gives(tuple(range(200)), hung_levers(flat_tree(200), (1,) * 200))
        self.gives((199,), hung_levers(flat_tree(200), (1,) * 199 + (0,)))
        self.gives((), hung_levers(flat_tree(200), (0,) * 200))
        self.gives((0, 1), hung_levers(chain_tree(200), (1,) * 2 + (0,) * 198))

    def test_errors(self):
        self.fails(BadTree, 0, hung_levers, None, None)
        for value in ANY_VALUES:
            if not isinstance(value, (list, tuple)) or len(value) != 2:
                self.fails(BadSetting, -1, hung_levers, flat_tree(2), value)
                self.fails(BadSetting, -1, table_hung, Table([0, 0, 0, 1]), value)
        self.fails(BadSetting, 1, hung_levers, flat_tree(2), (1, True))
        self.fails(BadSetting, 0, table_hung, Table([0, 0, 0, 1]), (2, True))


class ClearedTest(Case):

    def holds(self, tree, settings):
        found = plain_cleared(tree, settings)
        many = many_of(tree)
        up = tuple(lever for lever in range(many) if (lever, 1) in found)
        down = tuple(lever for lever in range(many) if (lever, 0) in found)
        told = as_lists(settings)
        self.gives((up, down), cleared_levers(as_lists(tree), told))
        self.gives(tuple(death for death in all_deaths(many) if death not in found), uncleared(tree, told))
        self.gives(len(found) == 2 * many, is_clearing(tree, told))

    def test_lists(self):
        rng = random.Random(2)
        for tree in some_trees(4) + drawn_trees(2, 10, [6, 9]):
            self.holds(tree, [])
            for count in (1, 2, 3, 6, 20):
                self.holds(tree, drawn_list(rng, many_of(tree), count))
            if many_of(tree) < 5:
                self.holds(tree, settings_of(many_of(tree)))

    def test_limits(self):
        rng = random.Random(3)
        for tree in GREAT_TREES:
            settings = drawn_list(rng, 200, 400)
            up, down = cleared_levers(tree, settings)
            self.assertEqual(len(uncleared(tree, settings)), 400 - len(up) - len(down))
        settings = [(1,) * 200] + [turned((1,) * 200, lever) for lever in range(200)]
        self.gives(True, is_clearing(flat_tree(200), settings))
        self.gives(False, is_clearing(flat_tree(200), settings[:-1]))
        self.gives(((199, 0),), uncleared(flat_tree(200), settings[:-1]))

    def test_errors(self):
        for call in (cleared_levers, uncleared, is_clearing):
            self.fails(BadTree, 1, call, 1, None)
            for value in ANY_VALUES:
                if not isinstance(value, (list, tuple)) or len(value) > 400:
                    self.fails(BadList, -1, call, flat_tree(4), value)
                elif len(value) > 0:
                    self.fails(BadList, 0, call, flat_tree(4), value)
            self.fails(BadList, -1, call, 0, [(0,)] * 401)
            self.fails(BadList, 2, call, 0, [(0,), [1], (False,), None])
            call(0, [(0,)] * 400)


class JointTest(Case):

    def clearing_settings(self, tree, levers, place):
        wanted = {(lever, place) for lever in levers}
        return [at for at in settings_of(many_of(tree)) if wanted <= plain_clears(tree, at)]

    def test_papers(self):
        for tree in some_trees(4) + drawn_trees(3, 5, [6]):
            for levers, place in itertools.product(some_levers(many_of(tree)), (0, 1)):
                good = self.clearing_settings(tree, levers, place)
                kind, thing = joint_paper(as_lists(tree), list(levers), place)
                pairs = list(itertools.combinations(levers, 2))
                barred = [pair for pair in pairs if not self.clearing_settings(tree, pair, place)]
                self.assertEqual(barred, [pair for pair in pairs if pair_word(tree, *pair) == ("all", "any")[place]])
                self.assertEqual(not good, bool(barred))
                if good:
                    self.assertEqual(kind, "setting")
                    self.assertIn(thing, good)
                else:
                    self.gives(("pair", barred[0]), (kind, thing))

    def test_what_holds(self):
        for tree in some_trees(3) + drawn_trees(4, 4, [4]):
            many = many_of(tree)
            for levers, place in itertools.product(some_levers(many), (0, 1)):
                good = self.clearing_settings(tree, levers, place)
                for setting in settings_of(many):
                    self.gives(setting in good, joint_holds(tree, levers, place, ["setting", list(setting)]))
                for pair in itertools.product(range(-1, many + 1), repeat=2):
                    told = pair[0] < pair[1] and pair[0] in levers and pair[1] in levers
                    worth = told and not self.clearing_settings(tree, pair, place)
                    self.gives(worth, joint_holds(as_lists(tree), list(levers), place, ("pair", list(pair))))

    def test_any_value_holds_not(self):
        tree = flat_tree(2, "any")
        for value in ANY_VALUES:
            self.gives(False, joint_holds(tree, (0, 1), 1, value))
            good = same(value, (0, 1)) or same(value, [0, 1])
            self.gives(good, joint_holds(tree, (0, 1), 1, ("pair", value)))
            self.gives(False, joint_holds(tree, (0, 1), 1, (value, (0, 1))))
            self.gives(good or same(value, (1, 0)), joint_holds(tree, (0,), 1, ("setting", value)) or
                       joint_holds(tree, (1,), 1, ("setting", value)))
        for value in (("pair", (False, 1)), ("pair", (0, True)), ("pair", (0, 1, 1)), ("pair", (0, 1), 0), ("pair",),
                      ("pairs", (0, 1)), "pair"):
            self.gives(False, joint_holds(tree, (0, 1), 1, value))
        self.gives(False, joint_holds(tree, (0,), 1, ("setting", (True, 0))))
        self.gives(True, joint_holds(tree, (0,), 1, ("setting", (1, 0))))

    def test_refused_levers(self):
        for value in ANY_VALUES + ((0, 0), (1, 0), (0, 1, 4), (True, 2), "01", (-1, 0)):
            levers = some_levers(3)
            if any(same(value, told) or same(value, list(told)) for told in levers):
                continue
            self.refuses(value, joint_paper, flat_tree(3), value, None)
            self.refuses(value, joint_holds, flat_tree(3), value, None, None)

    def test_refused_places(self):
        for value in ANY_VALUES:
            if not same(value, 0) and not same(value, 1):
                self.refuses(value, joint_paper, flat_tree(3), (0,), value)
                self.refuses(value, joint_holds, flat_tree(3), (0,), value, None)
        self.fails(BadTree, 0, joint_paper, None, None, None)
        self.fails(BadTree, 0, joint_holds, None, None, None, None)

    def test_limits(self):
        every = tuple(range(200))
        self.gives(("setting", (1,) * 200), joint_paper(flat_tree(200), every, 1))
        self.gives(("pair", (0, 1)), joint_paper(flat_tree(200), every, 0))
        self.gives(("pair", (198, 199)), joint_paper(chain_tree(200), (198, 199), 0))
        for tree in GREAT_TREES:
            levers = [lever for lever in range(1, 200) if pair_word(tree, 0, lever) == "all"][:1]
            paper = joint_paper(tree, (0,) + tuple(levers), 1)
            self.gives(("setting", True), (paper[0], joint_holds(tree, [0] + levers, 1, paper)))

    def test_tables_of_trees_hang_alike(self):
        for tree in drawn_trees(5, 5, [5]):
            table = tree_table(tree)
            for setting in settings_of(5):
                self.gives(hung_levers(tree, setting), table_hung(table, setting))


if __name__ == "__main__":
    unittest.main()
