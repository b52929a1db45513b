"""Points 9 (numbers of settings) and 10: tables."""

import itertools
import random
import unittest

from deadlevers.errors import BadLot, BadSetting, BadTable, BadTree, NoLever, Refused, TooGreat
from deadlevers.tables import (Table, hang_setting, is_rising, lot_table, mattering, number_setting, sense_holds,
                               sense_paper, setting_number, table_lamp, table_parting, tree_table, turned_table)
from helpers import (ANY_VALUES, Case, all_lots, all_tables, as_lists, broken, chain_tree, drawn_lot, drawn_tree,
                     drawn_trees, flat_tree, lamp, many_of, number_of, numbered_settings, rises, same, settings_of,
                     some_trees, table_at, turned)


def drawn_table(rng, many):
    return Table([rng.randint(0, 1) for _ in range(2 ** many)])


class NumberTest(Case):

    def test_numbers(self):
        for many in (1, 2, 5):
            for setting in settings_of(many):
                self.gives(number_of(setting), setting_number(list(setting)))
                self.gives(setting, number_setting(number_of(setting), many))
        self.gives(2 ** 200 - 1, setting_number((1,) * 200))
        self.gives((0,) * 199 + (1,), number_setting(2 ** 199, 200))
        self.gives(4, setting_number((0, 0, 1)))


class TableTest(Case):

    def test_attributes(self):
        for many in range(1, 11):
            table = Table([0, 1] * 2 ** (many - 1))
            self.gives((many, (0, 1) * 2 ** (many - 1)), (table.levers, table.lamps))

    def test_later_changes(self):
        lamps = [0, 1, 1, 0]
        table = Table(lamps)
        lamps[0] = 1
        self.gives((0, 1, 1, 0), table.lamps)
        self.assertEqual(Table(lamps=(1, 1, 1, 0)), Table(lamps))

    def test_equal(self):
        self.assertTrue(Table([0, 1]) == Table((0, 1)))
        self.assertFalse(Table([0, 1]) == Table((1, 0)))
        self.assertTrue(Table([0, 1]) != Table((0, 1, 0, 1)))
        for value in ANY_VALUES + ((0, 1), [0, 1]):
            if not isinstance(value, Table):
                self.assertFalse(Table([0, 1]) == value)
                self.assertTrue(Table([0, 1]) != value)

    def test_wrong_lengths(self):
        for value in (None, True, 3, "01", "0", (), [], [0], (0, 1, 1), [0] * 1023, [0] * 2048, [None] * 2048,
                      Table([0, 1]), BadTree(0), [0, 1, 2]):
            self.fails(BadTable, -1, Table, value)

    def test_wrong_lamps(self):
        for value, at in (((0, 2), 1), ((-1, 0), 0), ((True, 0), 0), ((0, False), 1), (("0", None), 0),
                          ([0, 1, 1, []], 3), ([0] * 1023 + [None], 1023), ([Table([0, 1])] * 2, 0)):
            self.fails(BadTable, at, Table, value)

    def test_any_value(self):
        for value in ANY_VALUES:
            if not isinstance(value, (list, tuple)) or len(value) not in [2 ** many for many in range(1, 11)]:
                self.fails(BadTable, -1, Table, value)
            elif not all(type(lamp_told) is int and 0 <= lamp_told <= 1 for lamp_told in value):
                at = [type(item) is int and 0 <= item <= 1 for item in value].index(False)
                self.fails(BadTable, at, Table, value)

    def test_trees(self):
        for tree in some_trees(4) + drawn_trees(1, 5, [7, 10]):
            table = tree_table(as_lists(tree))
            settings = numbered_settings(many_of(tree))
            self.gives(tuple(lamp(tree, setting) for setting in settings), table.lamps)
            for setting in settings[:100]:
                self.gives(lamp(tree, setting), table_lamp(table, list(setting)))

    def test_too_many_levers(self):
        self.fails(TooGreat, 10, tree_table, flat_tree(11))
        self.fails(TooGreat, 10, tree_table, chain_tree(200))
        self.fails(BadTree, 0, tree_table, chain_tree(201))
        self.gives(10, tree_table(chain_tree(10)).levers)

    def test_lots(self):
        rng = random.Random(7)
        for table in all_tables(2) + [drawn_table(rng, 3) for _ in range(5)]:
            settings = numbered_settings(table.levers)
            for lot in all_lots(table.levers):
                found = lot_table(table, as_lists(lot))
                self.gives(tuple(table_at(table, broken(at, lot)) for at in settings), found.lamps)
        table = drawn_table(rng, 10)
        lot = drawn_lot(rng, 10)
        lamps = tuple(table_at(table, broken(at, lot)) for at in numbered_settings(10))
        self.gives(lamps, lot_table(table, lot).lamps)

    def test_wrong_settings_and_lots(self):
        table = Table([0, 1, 1, 0])
        for value in ANY_VALUES:
            if not isinstance(value, (list, tuple)) or len(value) != 2:
                self.fails(BadSetting, -1, table_lamp, table, value)
            if not isinstance(value, (list, tuple)) or len(value) == 0:
                self.fails(BadLot, -1, lot_table, table, value)
        self.fails(BadSetting, 1, table_lamp, table, (0, False))
        self.fails(BadLot, 1, lot_table, table, [(0, 1), (2, 0)])

    def test_parting(self):
        for many in (1, 2):
            for one, other in itertools.product(all_tables(many), repeat=2):
                unlike = [at for at in numbered_settings(many) if table_at(one, at) != table_at(other, at)]
                self.gives(unlike[0] if unlike else None, table_parting(one, other))
        other = Table([0, 1])
        self.refuses(other, table_parting, Table([0, 1, 0, 1]), other)
        self.gives((1,) * 10, table_parting(Table([0] * 1024), Table([0] * 1023 + [1])))


class HangTest(Case):

    def test_plain_search(self):
        rng = random.Random(3)
        for table in all_tables(1) + all_tables(2) + [drawn_table(rng, 3) for _ in range(40)]:
            matter = []
            for lever in range(table.levers):
                low = [at for at in numbered_settings(table.levers) if at[lever] == 0]
                found = [at for at in low if table_at(table, at) != table_at(table, turned(at, lever))]
                self.gives(found[0] if found else None, hang_setting(table, lever))
                if found:
                    matter.append(lever)
            self.gives(tuple(matter), mattering(table))
            self.gives(rises(table), is_rising(table))

    def test_no_lever(self):
        for value in ANY_VALUES:
            if not same(value, 0) and not same(value, 1):
                self.fails(NoLever, value, hang_setting, Table([0, 1, 1, 1]), value)

    def test_limits(self):
        table = tree_table(flat_tree(10))
        self.gives((1,) * 9 + (0,), hang_setting(table, 9))
        self.gives(tuple(range(10)), mattering(table))
        self.gives(True, is_rising(table))
        self.gives(("senses", (1,) * 10), sense_paper(table))
        self.gives((), mattering(Table([1] * 1024)))
        self.gives(("senses", (0,) * 10), sense_paper(Table([1] * 1024)))


class SenseTest(Case):

    def turns(self, table, lever):
        """The settings with the lever down, by what turning it up does: it lights the lamp, it puts it out."""
        low = [at for at in numbered_settings(table.levers) if at[lever] == 0]
        lit = [at for at in low if table_at(table, at) < table_at(table, turned(at, lever))]
        return lit, [at for at in low if table_at(table, at) > table_at(table, turned(at, lever))]

    def plain_paper(self, table):
        senses = []
        for lever in range(table.levers):
            lit, out = self.turns(table, lever)
            if lit and out:
                return ("mixed", lever, lit[0], out[0])
            senses.append(1 if lit else -1 if out else 0)
        return ("senses", tuple(senses))

    def tables(self):
        rng = random.Random(5)
        return all_tables(1) + all_tables(2) + [drawn_table(rng, 3) for _ in range(60)]

    def test_papers(self):
        for table in self.tables():
            paper = sense_paper(table)
            self.gives(self.plain_paper(table), paper)
            self.gives(True, sense_holds(table, paper))
            self.gives(True, sense_holds(table, as_lists(paper)))

    def test_senses_hold(self):
        for table in self.tables():
            own = sense_paper(table)
            for senses in itertools.product((-1, 0, 1), repeat=table.levers):
                self.gives(own == ("senses", senses), sense_holds(table, ["senses", senses]))

    def test_mixed_hold(self):
        for table in self.tables():
            for lever in range(table.levers):
                lits, outs = self.turns(table, lever)
                settings = numbered_settings(table.levers)
                for lit, out in itertools.product(settings, repeat=2):
                    good = lit in lits and out in outs
                    self.gives(good, sense_holds(table, ("mixed", lever, list(lit), out)))

    def test_no_papers(self):
        mixed, rising = Table([0, 1, 1, 0]), Table([0, 0, 0, 1])
        for value in ANY_VALUES:
            for table in (mixed, rising):
                self.gives(False, sense_holds(table, value))
                self.gives(False, sense_holds(table, ("senses", value)))
                self.gives(False, sense_holds(table, (value, (1, 1))))
            if not same(value, 0) and not same(value, 1):
                self.gives(False, sense_holds(mixed, ("mixed", value, (0, 0), (0, 1))))
            self.gives(same(value, (0, 0)), sense_holds(mixed, ("mixed", 0, value, (0, 1))))
            good = same(value, (0, 1)) or same(value, [0, 1])
            self.gives(good, sense_holds(mixed, ("mixed", 0, (0, 0), value)))
        for value in (("senses", (1, 1), 0), ("senses",), ("senses", (1, True)), ("senses", (1, 1, 1)), ("senses", (1,)),
                      ("mixed", 0, (0, 0)), ("mixed", 0, (0, 0), (0, 1), 0), "senses", ("senses", 0, (0, 0), (0, 1)), ("sense", (1, 1))):
            self.gives(False, sense_holds(rising, value))
            self.gives(False, sense_holds(mixed, value))
        self.gives(True, sense_holds(rising, ("senses", [1, 1])))
        self.gives(True, sense_holds(mixed, ["mixed", 1, [0, 0], (1, 0)]))
        self.gives(False, sense_holds(mixed, ("mixed", 0, (1, 0), (1, 1))))


class TurnedTest(Case):

    def test_turned(self):
        rng = random.Random(1)
        for table in all_tables(2) + [drawn_table(rng, 4)]:
            for count in range(table.levers + 1):
                for levers in itertools.combinations(range(table.levers), count):
                    found = turned_table(table, list(levers))
                    for setting in settings_of(table.levers):
                        at = tuple(1 - place if lever in levers else place for lever, place in enumerate(setting))
                        self.assertEqual(table_at(found, setting), table_at(table, at))
        self.gives((0, 1), turned_table(Table([1, 0]), (0,)).lamps)

    def test_refused(self):
        table = tree_table(drawn_tree(random.Random(1), 3))
        good = [levers for count in range(4) for levers in itertools.combinations(range(3), count)]
        for value in ANY_VALUES + ((0, 0), (1, 0), (3,), (True,), "01", (0, 1, 3), (-1,)):
            if not any(same(value, levers) or same(value, list(levers)) for levers in good):
                self.refuses(value, turned_table, table, value)


if __name__ == "__main__":
    unittest.main()
