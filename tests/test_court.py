"""Points 23 and 24: the court."""

import itertools
import random
import unittest

from deadlevers.cores import core_paper, found_tree, table_of
from deadlevers.court import box_honest, court_holds, court_paper, is_honest, tall_place
from deadlevers.errors import BadTree
from deadlevers.tables import Table, tree_table
from deadlevers.trees import is_tall, part_at, tree_knots
from helpers import (ANY_VALUES, GREAT_TREES, Case, all_lots, as_lists, broken, chain_tree, drawn_rising, drawn_trees,
                     flat_tree, full_tables, lamp, many_of, pairs_tree, plain_clears, plain_table, same, settings_of,
                     shown_table, some_trees)
from test_killers import BAD_TABLES

MAJORITY = Table([0, 0, 0, 1, 0, 1, 1, 1])
TALL = ("any", (0, ("all", (1, 2))))
TWO = ("all", (TALL, ("any", (("all", (3, 4)), 5))))
DEEP = ("any", (("all", (0, ("any", (1, ("all", (2, 3)))), 4, ("any", (("all", (5, 6)), 7)))), 8, 9))


def plain_tall_place(tree):
    for place in tree_knots(tree):
        tall = [at for at, part in enumerate(part_at(tree, place)[1]) if is_tall(part)]
        if len(tall) > 1:
            return (place, (tall[0], tall[1]))
    return None


class HonestTest(Case):

    def test_places(self):
        wide = 0
        for tree in some_trees(4) + drawn_trees(1, 60, [7, 9, 12, 25]):
            found = plain_tall_place(tree)
            wide += found is not None
            self.gives(found, tall_place(as_lists(tree)))
            self.gives(found is None, is_honest(as_lists(tree)))
        self.assertGreater(wide, 10)
        self.gives(((0,), (1, 3)), tall_place(DEEP))

    def test_plain_search_of_tables(self):
        rng = random.Random(2)
        tables = full_tables(4) + [drawn_rising(rng, 5) for _ in range(6)]
        tables += [plain_table(tree) for tree in drawn_trees(3, 4, [5])]
        for table in tables:
            self.gives(shown_table(table), box_honest(table))

    def test_plain_search_of_six_levers(self):
        for tree in (TWO, ("all", (TALL, ("any", (3, ("all", (4, 5)))))), drawn_trees(4, 1, [6])[0],
                     ("any", (("all", (0, ("any", (1, 2)))), ("all", (3, ("any", (4, 5)))))), chain_tree(6)):
            self.gives(shown_table(plain_table(tree)), is_honest(tree))
        self.gives((False, True), (is_honest(TWO), is_honest(TALL)))

    def test_cleared_levers_of_the_lot_are_enough(self):
        """In an honest tree a lot is shown as soon as each lever of the lot is cleared up and down."""
        for tree in some_trees(4) + [chain_tree(5)]:
            settings = settings_of(many_of(tree))
            clears = {at: plain_clears(tree, at) for at in settings}
            for lot in all_lots(many_of(tree)):
                right = [at for at in settings if lamp(tree, broken(at, lot)) == lamp(tree, at)]
                cleared = set().union(*[clears[at] for at in right])
                self.assertFalse(all({(lever, 0), (lever, 1)} <= cleared for lever, _ in lot))

    def test_great_trees(self):
        honest = [is_honest(tree) for tree in GREAT_TREES]
        self.assertEqual(honest, [plain_tall_place(tree) is None for tree in GREAT_TREES])
        self.assertEqual(honest[:5], [True] * 5)
        self.gives(None, tall_place(0))

    def test_errors(self):
        for call in (tall_place, is_honest):
            self.fails(BadTree, 0, call, ("all", (0,)))
            self.fails(BadTree, 1, call, 7)
        for table in BAD_TABLES:
            self.refuses(table, box_honest, table)
            self.refuses(table, court_paper, table)
            self.refuses(table, court_holds, table, None)


class CourtTest(Case):

    def test_papers(self):
        rng = random.Random(5)
        tables = full_tables(4) + [drawn_rising(rng, 6) for _ in range(5)]
        tables += [tree_table(tree) for tree in drawn_trees(6, 20, [6, 8, 10]) + [TWO, DEEP]]
        kinds = set()
        for table in tables:
            paper = court_paper(table)
            kinds.add(paper[0])
            self.gives(True, court_holds(table, paper))
            self.gives(True, court_holds(table, as_lists(paper)))
            tree = found_tree(table)
            if tree is None:
                self.gives(("core", 3), (paper[0], len(paper)))
            elif is_honest(tree):
                self.gives(("honest", tree, 3), paper[:2] + (len(paper),))
            else:
                self.gives(("tall", tree) + tall_place(tree), paper[:2] + paper[3:])
            self.gives(paper[0] == "honest", box_honest(table))
        self.assertEqual(kinds, {"core", "honest", "tall"})

    def test_other_pairs_hold(self):
        tree = ("all", (("any", (0, ("all", (1, 2)))), ("any", (3, ("all", (4, 5)))), 6, ("any", (7, ("all", (8, 9))))))
        table = tree_table(tree)
        steps = core_paper(table)[2]
        for pair in itertools.product(range(-1, 5), repeat=2):
            worth = pair in ((0, 1), (0, 3), (1, 3))
            self.gives(worth, court_holds(table, ["tall", as_lists(tree), as_lists(steps), [], list(pair)]))
        for place in tree_knots(tree)[1:] + ((2,), (0, 0), (9,)):
            self.gives(False, court_holds(table, ("tall", tree, steps, place, (0, 1))))
        table = tree_table(DEEP)
        steps = core_paper(table)[2]
        self.gives(True, court_holds(table, ("tall", DEEP, steps, (0,), (1, 3))))
        self.gives(False, court_holds(table, ("tall", DEEP, steps, (), (0, 1))))

    def test_bent_papers(self):
        two, steps = tree_table(TWO), core_paper(tree_table(TWO))[2]
        flat = tree_table(flat_tree(3))
        bent = ((two, ("honest", TWO, steps)), (two, ("tall", TWO, steps)), (two, ("tall", TWO, steps, (), (0, 1), 0)),
                (two, ("tall", TWO, steps[:-1], (), (0, 1))), (two, ("tall", TALL, steps, (), (0, 1))),
                (two, ("tall", TWO, steps, (), (False, 1))), (two, ("tall", TWO, steps, (), (0, True))),
                (two, ("tall", TWO, steps, (), (1, 0))), (two, ("tall", TWO, steps, (), (0, 0))),
                (two, ("tall", TWO, steps, (), (0, 1, 1))), (two, ("tall", TWO, steps, None, (0, 1))),
                (two, ("tree", TWO, steps)), (two, ("core", steps, 0)), (two, ("core", (), 0)), (two, ("tall", TWO, (), (), (0, 1))),
                (flat, ("core", (), 0)), (flat, ("honest", flat_tree(3), ())), (flat, ("killer", (), 0)),
                (flat, ("honest", flat_tree(3, "any"), core_paper(flat)[2])), (MAJORITY, ("killer", (), 0)),
                (MAJORITY, ("core", (), 3)), (MAJORITY, ("core", ((0, 1, "all"),), 2)), (MAJORITY, ("core", (), 0, 0)),
                (flat, ("tree", flat_tree(3), core_paper(flat)[2])), (two, ("honest", TWO, steps, (), (0, 1))),
                (two, ("wide", TWO, steps, (), (0, 1))), (flat, ("", flat_tree(3), core_paper(flat)[2])),
                (MAJORITY, ("honest", flat_tree(3), ())), (MAJORITY, (["core"], (), 0)), (MAJORITY, ("core", (), False)))
        for table, value in bent:
            self.gives(False, court_holds(table, value))
            self.gives(False, court_holds(table, as_lists(value)))
        self.gives(True, court_holds(two, ("tall", TWO, steps, (), (0, 1))))
        self.gives(True, court_holds(flat, ("honest", flat_tree(3), core_paper(flat)[2])))
        for lever in range(3):
            self.gives(True, court_holds(MAJORITY, ["core", [], lever]))

    def test_any_value(self):
        two, steps = tree_table(TWO), core_paper(tree_table(TWO))[2]
        for value in ANY_VALUES:
            for table in (two, MAJORITY, Table([0, 1])):
                self.gives(False, court_holds(table, value))
                self.gives(False, court_holds(table, (value, (), 0)))
                self.gives(same(value, 0) and table.levers == 1, court_holds(table, ("honest", value, ())))
            self.gives(False, court_holds(two, ("tall", value, steps, (), (0, 1))))
            self.gives(False, court_holds(two, ("tall", TWO, value, (), (0, 1))))
            empty = same(value, ()) or same(value, [])
            self.gives(empty, court_holds(two, ("tall", TWO, steps, value, (0, 1))))
            pair = same(value, (0, 1)) or same(value, [0, 1])
            self.gives(pair, court_holds(two, ("tall", TWO, steps, (), value)))
            self.gives(empty, court_holds(MAJORITY, ("core", value, 1)))

    def test_edges(self):
        self.gives(("honest", 0, ()), court_paper(Table([0, 1])))
        self.gives(True, box_honest(Table([0, 1])))
        wide = table_of(MAJORITY, [0, ("all", (1, 3)), 2])
        self.gives((False, "core"), (box_honest(wide), court_paper(wide)[0]))
        for tree in (flat_tree(10), chain_tree(10), pairs_tree(10)):
            self.gives(True, court_holds(tree_table(tree), court_paper(tree_table(tree))))


if __name__ == "__main__":
    unittest.main()
