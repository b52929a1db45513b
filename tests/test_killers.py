"""Points 18 and 19: killers and twins."""

import itertools
import random
import unittest

from deadlevers.errors import NoLever, Refused, TooGreat
from deadlevers.killers import all_killings, idle_killers, killed_levers
from deadlevers.pairs import pair_place, pair_word
from deadlevers.tables import Table, tree_table
from deadlevers.trees import part_at, part_levers
from deadlevers.twins import all_twins, joined_twins, split_lever
from helpers import (ANY_VALUES, Case, all_tables, chain_tree, drawn_rising, drawn_trees, flat_tree, full_tables,
                     heeds_all, many_of, numbered_settings, plain_table, rises, same, settings_of, some_trees, table_at,
                     table_hangs)

RNG = random.Random(1)
TABLES = full_tables(4) + [drawn_rising(RNG, many) for many in (5, 5, 5, 6, 6)]
BAD_TABLES = [table for many in (1, 2, 3) for table in all_tables(many) if not rises(table) or not heeds_all(table)]


def plain_killed(table, lever, place):
    heard = set()
    for setting in settings_of(table.levers):
        if setting[lever] == place:
            heard |= set(table_hangs(table, setting))
    return tuple(other for other in range(table.levers) if other != lever and other not in heard)


def plain_joined(table, one, other):
    """The lesser of two levers stands for both, those behind the greater are numbered one less."""
    lamps = []
    for setting in numbered_settings(table.levers - 1):
        lamps.append(table_at(table, setting[:other] + (setting[one],) + setting[other:]))
    return Table(lamps)


class KillerTest(Case):

    def test_plain_search(self):
        for table in TABLES:
            pairs = tuple((plain_killed(table, lever, 0), plain_killed(table, lever, 1)) for lever in range(table.levers))
            self.gives(pairs, all_killings(table))
            for lever, place in itertools.product(range(table.levers), (0, 1)):
                self.gives(pairs[lever][place], killed_levers(table, lever, place))
            self.gives(tuple(lever for lever, pair in enumerate(pairs) if pair == ((), ())), idle_killers(table))

    def test_who_kills_a_killer_kills_its_prey(self):
        for table in TABLES:
            found = all_killings(table)
            for one, place in itertools.product(range(table.levers), (0, 1)):
                for other in found[one][place]:
                    for third in found[other][0] + found[other][1]:
                        self.assertTrue(third == one or third in found[one][place])

    def test_trees(self):
        for tree in some_trees(4) + drawn_trees(2, 6, [6, 7]) + [flat_tree(10), chain_tree(10)]:
            if many_of(tree) == 1:
                continue
            found = all_killings(tree_table(tree))
            for lever in range(many_of(tree)):
                others = [other for other in range(many_of(tree)) if other != lever]
                place = max([pair_place(tree, lever, other) for other in others], key=len)
                knot = part_at(tree, place)
                killed = tuple(other for other in part_levers(knot) if other != lever)
                self.gives((killed, ()) if knot[0] == "all" else ((), killed), found[lever])

    def test_edges(self):
        self.gives(((), (0,)), (killed_levers(Table([0, 1]), 0, 1), idle_killers(Table([0, 1]))))
        self.gives((((), ()),), all_killings(Table([0, 1])))

    def test_other_tables(self):
        for table in BAD_TABLES:
            self.refuses(table, killed_levers, table, None, None)
            for call in (all_killings, idle_killers, all_twins):
                self.refuses(table, call, table)
            self.refuses(table, joined_twins, table, None, None)
            self.refuses(table, split_lever, table, None, None)
        for value in ANY_VALUES:
            if not isinstance(value, Table):
                self.refuses(value, all_killings, value)

    def test_other_arguments(self):
        table = tree_table(flat_tree(3))
        for value in ANY_VALUES:
            if not any(same(value, lever) for lever in (0, 1, 2)):
                self.fails(NoLever, value, killed_levers, table, value, None)
            if not same(value, 0) and not same(value, 1):
                self.refuses(value, killed_levers, table, 2, value)


class TwinTest(Case):

    def test_plain_search(self):
        for table in TABLES:
            worth = []
            for one, other in itertools.combinations(range(table.levers), 2):
                for place, word in enumerate(("all", "any")):
                    if other in plain_killed(table, one, place) and one in plain_killed(table, other, place):
                        worth.append((one, other, word))
            self.gives(tuple(worth), all_twins(table))
            for one, other in itertools.combinations(range(table.levers), 2):
                mutual = all(any(b in plain_killed(table, a, place) for place in (0, 1))
                             for a, b in ((one, other), (other, one)))
                self.assertEqual(mutual, (one, other) in [twins[:2] for twins in worth])

    def test_joined(self):
        for table in TABLES:
            for one, other, word in all_twins(table):
                found = joined_twins(table, one, other)
                self.gives(plain_joined(table, one, other), found)
                self.gives(found, joined_twins(table, other, one))
                for setting in settings_of(table.levers):
                    places = (setting[one], setting[other])
                    both = min(places) if word == "all" else max(places)
                    at = setting[:one] + (both,) + setting[one + 1:]
                    self.assertEqual(table_at(found, at[:other] + at[other + 1:]), table_at(table, setting))

    def test_trees(self):
        for tree in some_trees(4) + drawn_trees(3, 6, [6, 9]):
            worth = []
            for one, other in itertools.combinations(range(many_of(tree)), 2):
                parts = part_at(tree, pair_place(tree, one, other))[1]
                if one in parts and other in parts:
                    worth.append((one, other, pair_word(tree, one, other)))
            self.gives(tuple(worth), all_twins(tree_table(tree)))

    def test_no_twins(self):
        for table in TABLES[:200]:
            twins = [told[:2] for told in all_twins(table)]
            for one, other in itertools.product(range(table.levers), repeat=2):
                if (one, other) not in twins and (other, one) not in twins:
                    self.fails(Refused, (one, other), joined_twins, table, one, other)
        table = tree_table(flat_tree(3))
        for value in ANY_VALUES:
            if not any(same(value, lever) for lever in (0, 1, 2)):
                self.fails(NoLever, value, joined_twins, table, value, None)
                self.fails(NoLever, value, joined_twins, table, 0, value)

    def test_split(self):
        for table in TABLES:
            for lever, word in itertools.product(range(table.levers), ("all", "any")):
                found = split_lever(table, lever, word)
                self.assertEqual(found.levers, table.levers + 1)
                for setting in numbered_settings(table.levers + 1)[::3]:
                    places = (setting[lever], setting[-1])
                    both = min(places) if word == "all" else max(places)
                    at = setting[:lever] + (both,) + setting[lever + 1:-1]
                    self.assertEqual(table_at(found, setting), table_at(table, at))
                self.gives(table, joined_twins(found, lever, table.levers))

    def test_no_split(self):
        table = tree_table(flat_tree(3))
        for value in ANY_VALUES + ("ALL", "and"):
            if not any(same(value, lever) for lever in (0, 1, 2)):
                self.fails(NoLever, value, split_lever, table, value, None)
            if not same(value, "all") and not same(value, "any"):
                self.refuses(value, split_lever, table, 0, value)
        full = tree_table(chain_tree(10))
        self.fails(NoLever, 10, split_lever, full, 10, None)
        self.fails(Refused, None, split_lever, full, 9, None)
        self.fails(TooGreat, 10, split_lever, full, 9, "all")
        self.gives(10, split_lever(tree_table(chain_tree(9)), 3, "any").levers)

    def test_full_tables_are_all(self):
        """The plain search for tables finds what it should: 1, 2, 9 and 114 of up to four levers."""
        counts = [sum(table.levers == many for table in full_tables(4)) for many in (1, 2, 3, 4)]
        self.assertEqual(counts, [1, 2, 9, 114])
        self.assertEqual(plain_table(flat_tree(2)), Table([0, 0, 0, 1]))


if __name__ == "__main__":
    unittest.main()
