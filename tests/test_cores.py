"""Points 20, 21 and 22: cores."""

import itertools
import random
import unittest

from deadlevers.cores import check_core, core_box, core_holds, core_paper, found_tree, table_of
from deadlevers.errors import PaperFault, Refused, TooGreat
from deadlevers.killers import all_killings, idle_killers
from deadlevers.tables import Table, tree_table
from deadlevers.trees import joined, part_levers
from deadlevers.twins import all_twins, joined_twins
from helpers import (ANY_VALUES, Case, as_lists, chain_tree, drawn_rising, drawn_trees, flat_tree, full_tables, lamp,
                     levers_of, many_of, numbered_settings, pairs_tree, plain_table, same, some_trees, table_at)
from test_killers import BAD_TABLES

RNG = random.Random(4)
MAJORITY = Table([0, 0, 0, 1, 0, 1, 1, 1])
WIDE = table_of(MAJORITY, [("all", (0, 4)), ("any", (1, 3)), 2])
TABLES = full_tables(4) + [drawn_rising(RNG, many) for many in (5, 5, 5, 6, 6, 7)] + [WIDE]
TREES = some_trees(4) + drawn_trees(5, 10, [5, 7, 9, 10])


def drawn_joinings(rng, table):
    """Twins joined in some order, as long as there are any: the box that is left, its parts, what was done."""
    parts, steps = list(range(table.levers)), []
    while all_twins(table):
        one, other, word = rng.choice(all_twins(table))
        steps.append((min(levers_of(parts[one])), min(levers_of(parts[other])), word))
        table = joined_twins(table, one, other)
        parts[one] = joined(word, (parts[one], parts.pop(other)))
    return table, tuple(parts), tuple(steps)


class CoreTest(Case):

    def test_whatever_order(self):
        rng = random.Random(6)
        for table in TABLES:
            found = core_box(table)
            for _ in range(3):
                core, parts, _ = drawn_joinings(rng, table)
                self.gives(found, (core, parts))
            self.gives((), all_twins(found[0]))
            self.gives(table, table_of(*found))
            least = [min(part_levers(part)) for part in found[1]]
            self.assertEqual(least, sorted(least))

    def test_some_lever_kills_nobody(self):
        for table in TABLES:
            core, trees = core_box(table)
            if core.levers > 1:
                self.assertTrue(idle_killers(core))
                self.gives(None, found_tree(table))
            else:
                self.gives(trees[0], found_tree(table))

    def test_trees(self):
        for tree in TREES:
            self.gives(tree, found_tree(plain_table(tree)))
            self.gives((Table([0, 1]), (tree,)), core_box(tree_table(tree)))

    def test_who_has_a_tree(self):
        """Just the tables of trees have one."""
        of_trees = [plain_table(tree) for tree in some_trees(4)]
        for table in full_tables(4):
            self.assertEqual(found_tree(table) is not None, table in of_trees)
        self.assertEqual(len(of_trees), sum(table in of_trees for table in full_tables(4)))

    def test_other_tables(self):
        for table in BAD_TABLES:
            for call in (core_box, found_tree, core_paper):
                self.refuses(table, call, table)
            self.refuses(table, check_core, table, None)
            self.refuses(table, core_holds, table, None)

    def test_example(self):
        self.gives((MAJORITY, (("all", (0, 4)), ("any", (1, 3)), 2)), core_box(WIDE))


class TableOfTest(Case):

    def test_plain_search(self):
        rng = random.Random(7)
        for many in (1, 2, 3, 4):
            for _ in range(20):
                core = Table([rng.randint(0, 1) for _ in range(2 ** many)])
                levers = list(range(rng.randint(many, 7)))
                trees = self.drawn_forest(rng, levers, many)
                found = table_of(core, as_lists(trees))
                for setting in numbered_settings(len(levers)):
                    at = tuple(lamp(tree, setting) for tree in trees)
                    self.assertEqual(table_at(found, setting), table_at(core, at))

    def drawn_forest(self, rng, levers, many):
        names = list(levers)
        rng.shuffle(names)
        groups = [names[at::many] for at in range(many)]
        trees = []
        for group in groups:
            tree = drawn_trees(rng.random(), 1, [len(group)])[0]
            group = sorted(group)

            def named(part):
                return group[part] if isinstance(part, int) else (part[0], tuple(map(named, part[1])))

            trees.append(named(tree))
        return tuple(trees)

    def test_any_table(self):
        for core in (Table([1, 0]), Table([0, 0]), Table([1, 1])):
            self.gives(core, table_of(core, [0]))
            self.gives((core.lamps[0],) * 3 + (core.lamps[1],), table_of(core, [("all", (0, 1))]).lamps)

    def test_refused(self):
        core = Table([0, 1, 1, 0])
        bad = ((0,), (0, 1, 2), (0, 0), (0, 2), (1, 2), (True, 0), (0, ("all", (1,))), (0, ("all", (2, 1))), "01",
               (("all", (0, 1)), ("all", (1, 2))), (0, ("all", (1, ("all", (2, 3))))), (0, None), ({0: 0}.get(1), 0),
               (("all", tuple(range(200))), 200), (("any", (0, 2)), ("all", (1, 4))), (0, ("none", (1, 2))),
               (flat_tree(201), 201), (("all", (0, 1)), -1))
        for value in bad + ANY_VALUES:
            if not same(value, (0, 1)) and not same(value, [0, 1]) and not same(value, (1, 0)):
                self.refuses(value, table_of, core, value)

    def test_too_great(self):
        core = Table([0, 1, 1, 0])
        self.fails(TooGreat, 10, table_of, core, (flat_tree(10), 10))
        self.fails(TooGreat, 10, table_of, core, (chain_tree(199), 199))
        self.fails(TooGreat, 10, table_of, Table([0, 1]), (chain_tree(200),))
        self.gives(10, table_of(core, (flat_tree(9), 9)).levers)
        self.gives(Table([0] * 1024), table_of(Table([0] * 1024), tuple(range(10))))


class PaperTest(Case):

    def test_papers(self):
        for table in TABLES + [tree_table(tree) for tree in TREES]:
            paper = core_paper(table)
            self.gives(None, check_core(table, paper))
            self.gives(True, core_holds(table, as_lists(paper)))
            tree = found_tree(table)
            if tree is None:
                self.assertEqual(paper[0], "killer")
            else:
                self.gives(("tree", tree, table.levers - 1), paper[:2] + (len(paper[2]),))

    def test_other_orders(self):
        rng = random.Random(8)
        for table in TABLES + [tree_table(tree) for tree in TREES]:
            core, parts, steps = drawn_joinings(rng, table)
            least = [min(part_levers(part)) for part in parts]
            if core.levers == 1:
                self.gives(None, check_core(table, ["tree", as_lists(parts[0]), as_lists(steps)]))
                # One lever kills nobody, but two or more must be left.
                self.fails(PaperFault, -1, check_core, table, ("killer", steps, 0))
            for lever in range(table.levers):
                good = core.levers > 1 and lever in [least[idle] for idle in idle_killers(core)]
                self.gives(good, core_holds(table, ("killer", steps, lever)))

    def test_killers_with_twins_left(self):
        for table in TABLES:
            if table.levers > 1:
                for lever in range(table.levers):
                    idle = all_killings(table)[lever] == ((), ())
                    self.gives(idle, core_holds(table, ("killer", (), lever)))

    def test_one_bend(self):
        table = tree_table(pairs_tree(4))
        tree = pairs_tree(4)
        good = ("tree", tree, ((2, 3, "any"), (0, 1, "any"), (0, 2, "all")))
        self.gives(None, check_core(table, good))
        steps = good[2]
        cases = ((("tree", tree, steps[:2]), -1), (("tree", ("any", (0, 1, 2, 3)), steps), -1), (("tree", 0, steps), -1),
                 (("tree", pairs_tree(200), steps), -1), (("tree", ("all", (("any", (0, 2)), ("any", (1, 3)))), steps), -1),
                 (("tree", tree, steps + ((0, 1, "all"),)), 4), (("tree", tree, ((2, 3, "all"),) + steps[1:]), 1),
                 (("tree", tree, ((2, 3, ""),) + steps[1:]), 1), (("tree", tree, (steps[0], steps[0], steps[2])), 2),
                 (("tree", tree, (steps[0], (0, 2, "all"), steps[2])), 2), (("tree", tree, (steps[0], (0, 3, "any"))), 2),
                 (("tree", tree, steps[:2] + ((1, 2, "all"),)), 3), (("tree", tree, steps[:2] + ((0, 3, "all"),)), 3),
                 (("tree", tree, ((0, 3, "all"),) + steps), 1), (("killer", steps, 0), -1), (("killer", steps[:2], 0), -1),
                 (("killer", steps[:2], 1), -1), (("killer", (), 3), -1), (("tree", tree, steps * 400), 4),
                 (("tree", tree, ()), -1))
        for value, at in cases:
            self.fails(PaperFault, at, check_core, table, value)
            self.fails(PaperFault, at, check_core, table, as_lists(value))
            self.gives(False, core_holds(table, value))
        box = core_box(WIDE)[0]
        self.assertEqual(idle_killers(box), (0, 1, 2))
        for value, at in ((("killer", (), 0), -1), (("killer", [(0, 4, "all")], 2), 0), (("killer", [], 2), 0),
                          (("killer", [(1, 3, "any"), (0, 4, "all")], 3), -1)):
            if at == 0:
                self.gives(None, check_core(WIDE, value))
            else:
                self.fails(PaperFault, at, check_core, WIDE, value)

    def test_no_form(self):
        table, tree = tree_table(pairs_tree(4)), pairs_tree(4)
        steps = core_paper(table)[2]
        bad = [("tree", tree), ("tree", tree, steps, 0), ("killer", steps), ("tree", steps, tree), ("trees", tree, steps),
               ("killer", tree, steps), ("killer", 0, steps), ("tree", ("all", (1, 0)), steps), ("tree", 1, steps),
               ("tree", ("all", (0,)), steps), ("tree", tree, steps[0]), ("tree", tree, [(1, 0, "any")]),
               ("tree", tree, [(0, 0, "any")]), ("tree", tree, [(0, 1)]), ("tree", tree, [(0, 1, "any", 0)]),
               ("tree", tree, [(0, 4, "any")]), ("tree", tree, [(-1, 1, "any")]), ("tree", tree, [(False, 1, "any")]),
               ("tree", tree, [(0, True, "any")]), ("tree", tree, [(0, 1, None)]), ("tree", tree, [(0, 1, ["any"])]),
               ("killer", steps, 4), ("killer", steps, -1), ("killer", steps, True), ("killer", steps, None),
               ("killer", steps, (0,)), ("killer", [None], 0), (["tree"], tree, steps), "killer", ("tree", tree, "012"),
               ("tree", flat_tree(201), steps), ("tree", tree, steps + (None,))]
        for value in bad + list(ANY_VALUES):
            self.fails(PaperFault, 0, check_core, table, value)
            self.gives(False, core_holds(table, value))
        for word in ANY_VALUES + ("tree", "core", "kill"):
            self.fails(PaperFault, 0, check_core, MAJORITY, (word, (), 0))
        for word in ANY_VALUES + ("killer", "honest"):
            self.fails(PaperFault, 0, check_core, table, (word, tree, steps))
        for value in ANY_VALUES:
            if not same(value, 0):
                self.fails(PaperFault, 0, check_core, table, ("tree", value, steps))
            if not isinstance(value, (list, tuple)) or len(value) > 0:
                self.fails(PaperFault, 0, check_core, table, ("tree", tree, value))
                self.fails(PaperFault, 0, check_core, table, ("killer", value, 0))
            if not any(same(value, lever) for lever in (0, 1, 2)):
                self.fails(PaperFault, 0, check_core, table, ("killer", (), value))

    def test_limits(self):
        for tree in (flat_tree(10), chain_tree(10), pairs_tree(10)):
            table = tree_table(tree)
            self.gives(tree, core_paper(table)[1])
            self.fails(PaperFault, 1, check_core, table, ("tree", tree, [(0, 1, "x")] * 4000))
        self.gives(("tree", 0, ()), core_paper(Table([0, 1])))
        self.gives(True, core_holds(Table([0, 1]), ["tree", 0, []]))
        self.gives(False, core_holds(Table([0, 1]), ["tree", False, []]))


class FoundTest(Case):

    def test_all_pairs_of_twins_stay_one_tree(self):
        for tree, other in itertools.combinations(some_trees(3), 2):
            self.assertNotEqual(plain_table(tree), plain_table(other))
            self.assertTrue(many_of(tree) > 0)
        self.fails(Refused, (0,), table_of, MAJORITY, (0,))


if __name__ == "__main__":
    unittest.main()
