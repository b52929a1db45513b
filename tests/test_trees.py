"""Points 5, 6 and 7 (left_part): trees, settings, lists, lots."""

import random
import unittest

from deadlevers.errors import BadList, BadLot, BadSetting, BadTree, NoLever, Refused
from deadlevers.tables import Table
from deadlevers.trees import (broken_lamp, broken_setting, check_list, check_lot, check_setting, check_tree, is_flat,
                              is_tall, joined, left_part, lever_place, mirror_tree, named_tree, part_at, part_levers,
                              tree_knots, tree_lamp, tree_levers)
from helpers import (ANY_VALUES, GREAT_TREES, Case, all_lots, all_trees, as_lists, broken, chain_tree, drawn_lot,
                     drawn_setting, drawn_tree, drawn_trees, flat_tree, lamp, levers_of, many_of, nested, ordered,
                     pairs_tree, plain_hung, same, settings_of, some_trees)

NO_FORM = (("all", (0,)), ("all", ()), ("all", 0), ("all",), ("all", (0, 1), 2), ("none", (0, 1)), (0, 1), (), [],
           None, True, False, -1, "0", ("all", "01"), ("all", (0, True)), ("all", (0, -1)), ("all", (0, None)),
           ("all", (0, ("all", (1, 2)))), ("any", (("any", (0, 1)), 2)), ("all", ((0, 1), 2)), (("all", (0, 1)),),
           ("all", (0, ("any", (1,)))), ["all", [0, ["any", [1, ["any", [2, 3]]]]]], (["all"], (0, 1)),
           ("all", (0, Table([0, 1]))), (Table([0, 1]), (0, 1)), Table([0, 1]), BadTree(0), {"all": 1}.get("any"))
NO_ORDER = (1, 10 ** 40, ("all", (0, 2)), ("all", (1, 0)), ("all", (0, 0)), ("all", (0, 1, 1)), ["all", [1, 2]],
            ("all", (("any", (1, 2)), 0)), ("all", (0, ("any", (2, 1)))), ("all", (("any", (0, 2)), ("any", (1, 1)))),
            ("any", (0, 1, 200)), ("all", (0, ("any", (0, 1)))), ("any", (("all", (0, 3)), ("all", (1, 4)))))


class TreeCheckTest(Case):

    def test_all_small_trees(self):
        for tree in some_trees(4):
            self.gives(tree, check_tree(tree))
            self.gives(tree, check_tree(as_lists(tree)))
            self.gives(many_of(tree), tree_levers(as_lists(tree)))

    def test_how_many_trees(self):
        self.assertEqual([len(set(all_trees(many))) for many in range(1, 6)], [1, 2, 8, 52, 472])

    def test_no_form(self):
        for value in NO_FORM:
            self.fails(BadTree, 0, check_tree, value)

    def test_no_order(self):
        for value in NO_ORDER:
            self.fails(BadTree, 1, check_tree, value)

    def test_form_ahead_of_order(self):
        self.fails(BadTree, 0, check_tree, ("all", (1, 0, ("all", (2, 3)))))
        self.fails(BadTree, 0, check_tree, ("all", (5, None)))
        self.fails(BadTree, 0, check_tree, ("all", (None, 5)))

    def test_any_value(self):
        for value in ANY_VALUES:
            if same(value, 0):
                self.gives(0, check_tree(value))
            else:
                at = 1 if type(value) is int and value > 0 else 0
                self.fails(BadTree, at, check_tree, value)

    def test_most_levers(self):
        for tree in GREAT_TREES:
            self.gives(tree, check_tree(as_lists(tree)))
            self.gives(200, tree_levers(tree))
        for tree in (flat_tree(201), chain_tree(201), pairs_tree(202), chain_tree(201, "any"), flat_tree(400)):
            self.fails(BadTree, 0, check_tree, tree)

    def test_too_many_levers_are_no_form(self):
        self.fails(BadTree, 0, check_tree, ("all", tuple(range(201, 0, -1))))
        self.fails(BadTree, 1, check_tree, ("all", tuple(range(200, 0, -1))))

    def test_endless_list(self):
        endless = ["all", [0, ["any", [1]]]]
        endless[1][1][1].append(endless)
        self.fails(BadTree, 0, check_tree, endless)
        endless = ["all", [["any", [0, 1]], 2]]
        endless[1][0][1][0] = endless
        self.fails(BadTree, 0, check_tree, endless)

    def test_whatever_takes_a_tree(self):
        takers = [(tree_levers, ()), (tree_knots, ()), (part_at, (None,)), (lever_place, (None,)), (mirror_tree, ()),
                  (named_tree, (None,)), (tree_lamp, (None,)), (broken_lamp, (None, None)), (left_part, (None,))]
        for call, more in takers:
            for value in NO_FORM:
                self.fails(BadTree, 0, call, value, *more)
            for value in NO_ORDER:
                self.fails(BadTree, 1, call, value, *more)


class PartTest(Case):

    def test_knots_and_parts(self):
        tree = ("all", (0, ("any", (1, ("all", (2, 4)))), 3))
        self.gives(((), (1,), (1, 1)), tree_knots(tree))
        self.gives((), tree_knots(0))
        self.gives(tree, part_at(tree, ()))
        self.gives(tree, part_at(as_lists(tree), []))
        self.gives(("all", (2, 4)), part_at(tree, [1, 1]))
        self.gives(4, part_at(tree, (1, 1, 1)))
        self.gives(0, part_at(0, ()))

    def test_knots_ascend(self):
        for tree in drawn_trees(1, 30, [2, 5, 9, 30]):
            knots = tree_knots(tree)
            self.assertEqual(list(knots), sorted(set(knots)))
            for place in knots:
                self.assertIsInstance(part_at(tree, place), tuple)
            for lever in range(many_of(tree)):
                self.gives(lever, part_at(tree, lever_place(tree, lever)))
            self.assertEqual(sum(len(part_at(tree, place)[1]) for place in knots), many_of(tree) + len(knots) - 1)

    def test_no_place(self):
        tree = ("all", (0, ("any", (1, 2))))
        for value in ANY_VALUES + ((2,), (1, 2), (0, 0), (1, 0, 0), (-1,), (1, -1), ((1,),), (1, True), ("1",), "1"):
            good = ((), [], (0,), [0], (1,), [1], (1, 0), [0, 1][:0])
            if any(same(value, place) for place in good):
                part_at(tree, value)
            else:
                self.refuses(value, part_at, tree, value)

    def test_place_through_a_lever(self):
        self.fails(Refused, (0,), part_at, 0, (0,))

    def test_part_levers(self):
        self.gives((3,), part_levers(3))
        self.gives((2, 5, 7, 9), part_levers(("all", (2, ("any", (5, 9)), 7))))
        for tree in GREAT_TREES:
            self.gives(tuple(range(200)), part_levers(tree))

    def test_lever_place(self):
        tree = ("all", (0, ("any", (1, 2)), 3))
        self.gives(((0,), (1, 0), (1, 1), (2,)), tuple(lever_place(tree, lever) for lever in range(4)))
        self.gives((), lever_place(0, 0))
        self.gives((1,) * 199, lever_place(chain_tree(200), 199))

    def test_no_lever(self):
        for value in ANY_VALUES:
            if not any(same(value, lever) for lever in (0, 1, 2)):
                self.fails(NoLever, value, lever_place, flat_tree(3), value)
        self.fails(NoLever, 3, lever_place, flat_tree(3), 3)

    def test_flat_and_tall(self):
        self.gives((False, False), (is_flat(0), is_tall(0)))
        self.gives((True, False), (is_flat(("any", (4, 9))), is_tall(("any", (4, 9)))))
        self.gives((False, True), (is_flat(("any", (4, ("all", (5, 6))))), is_tall(("any", (4, ("all", (5, 6)))))))

    def test_mirror(self):
        for tree in some_trees(4):
            mirrored = mirror_tree(as_lists(tree))
            self.gives(tree, mirror_tree(mirrored))
            for setting in settings_of(many_of(tree)):
                down = tuple(1 - place for place in setting)
                self.assertEqual(lamp(mirrored, setting), 1 - lamp(tree, down))
        self.gives(chain_tree(200, "any"), mirror_tree(chain_tree(200)))

    def test_joined(self):
        self.gives(4, joined("all", (4,)))
        self.gives(("any", (1, 2)), joined("all", (("any", (1, 2)),)))
        self.gives(("all", (1, 2)), joined("all", (("all", (1, 2)),)))
        self.gives(("all", (1, 2, 3, 5)), joined("all", (("all", (1, 3)), 5, 2)))
        self.gives(("all", (("any", (0, 7)), 2, 3)), joined("all", [3, ("any", (0, 7)), 2]))
        self.gives(("all", (0, ("any", (1, 2)), 4)), joined("all", (("any", (1, 2)), ("all", (0, 4)))))
        self.gives(("any", (("all", (0, 5)), ("all", (1, 2)))), joined("any", (("all", (1, 2)), ("all", (0, 5)))))

    def test_named(self):
        tree = ("all", (0, ("any", (1, 2))))
        self.gives(("all", (("any", (0, 1)), 2)), named_tree(tree, [2, 0, 1]))
        self.gives(("all", (("any", (0, 2)), 1)), named_tree(tree, (1, 2, 0)))
        self.gives(0, named_tree(0, [0]))
        rng = random.Random(3)
        for tree in drawn_trees(2, 40, [1, 2, 3, 5, 8, 40]):
            names = list(range(many_of(tree)))
            rng.shuffle(names)

            def renamed(part):
                return names[part] if isinstance(part, int) else (part[0], tuple(map(renamed, part[1])))

            self.gives(ordered(renamed(tree)), named_tree(as_lists(tree), names))
        self.gives(chain_tree(200), named_tree(chain_tree(200), list(range(200))))

    def test_no_names(self):
        for value in ANY_VALUES + ((0, 1, 2, 3), (0, 1, 3), (0, 1, 1), [0, 1, True], (0, 1, -1), "012", (0, 1)):
            if not any(same(value, names) for names in ((0, 1, 2),)):
                self.refuses(value, named_tree, flat_tree(3), value)


class SettingTest(Case):

    def test_good_ones(self):
        self.gives((1, 0, 1), check_setting([1, 0, 1], 3))
        self.gives(((1, 0), (0, 0)), check_list([[1, 0], (0, 0)], 2))
        self.gives((), check_list([], 5))
        self.gives(((1, 0),) * 400, check_list([[1, 0]] * 400, 2))
        self.gives(((0, 1), (2, 0)), check_lot([[0, 1], (2, 0)], 3))
        self.gives((0,) * 200, check_setting([0] * 200, 200))
        self.gives(tuple((lever, 1) for lever in range(200)), check_lot([[lever, 1] for lever in range(200)], 200))

    def test_wrong_settings(self):
        for value in (None, True, 0, "01", (), [], (0,), (0, 1, 1), Table([0, 1]), BadTree(0)):
            self.fails(BadSetting, -1, check_setting, value, 2)
        cases = (((0, 2), 1), ((-1, 0), 0), ((True, 0), 0), ((0, False), 1), ((0, None), 1), (("0", 1), 0),
                 (([], 0), 0), ((2, 2), 0), ((0, 10 ** 30), 1), ([Table([0, 1]), 0], 0))
        for value, at in cases:
            self.fails(BadSetting, at, check_setting, value, 2)

    def test_any_setting(self):
        for value in ANY_VALUES:
            if not isinstance(value, (list, tuple)) or len(value) != 3:
                self.fails(BadSetting, -1, check_setting, value, 3)

    def test_wrong_lists(self):
        for value in (None, True, 0, "01", Table([0, 1]), [[0, 1]] * 401, [None] * 401):
            self.fails(BadList, -1, check_list, value, 2)
        cases = (([None], 0), ([(0, 1), (0,)], 1), ([(0, 1), (0, 2), None], 1), ([(0, 1), (True, 0)], 1), ([0, 1], 0),
                 (["01"], 0), ([[0, 1]] * 399 + [[0, 1, 1]], 399), ([((0, 1), (0, 1))], 0), ([Table([0, 1])], 0))
        for value, at in cases:
            self.fails(BadList, at, check_list, value, 2)

    def test_any_list(self):
        for value in ANY_VALUES:
            if not isinstance(value, (list, tuple)) or len(value) > 400:
                self.fails(BadList, -1, check_list, value, 4)
            elif len(value) > 0:
                self.fails(BadList, 0, check_list, value, 4)

    def test_wrong_lots(self):
        for value in (None, True, 0, "01", (), [], Table([0, 1])):
            self.fails(BadLot, -1, check_lot, value, 3)
        cases = (([(0, 2)], 0), ([(3, 0)], 0), ([(-1, 0)], 0), ([(0, 0), (0, 1)], 1), ([(1, 0), (0, 1)], 1),
                 ([(0, True)], 0), ([(False, 0)], 0), ([(0, 0), (1, 1), (2, None)], 2), ([(0, 0), 1], 1),
                 ([(0, 0, 0)], 0), ([(0,)], 0), (["01"], 0), ([(0, 0), (2, 1), (2, 0), None], 2),
                 ([(0, 0), (1, 0), (2, 0), (3, 0)], 3))
        for value, at in cases:
            self.fails(BadLot, at, check_lot, value, 3)

    def test_any_lot(self):
        for value in ANY_VALUES:
            if not isinstance(value, (list, tuple)) or len(value) == 0:
                self.fails(BadLot, -1, check_lot, value, 1)
            elif not isinstance(value[0], (list, tuple)):
                self.fails(BadLot, 0, check_lot, value, 1)

    def test_deep_values(self):
        self.fails(BadSetting, 0, check_setting, nested(list, 40), 1)
        self.fails(BadList, 0, check_list, nested(tuple, 40), 1)
        self.fails(BadLot, 0, check_lot, nested(tuple, 40), 1)


class LampTest(Case):

    def test_lamps_of_small_trees(self):
        for tree in some_trees(3):
            many = many_of(tree)
            for setting in settings_of(many):
                self.gives(lamp(tree, setting), tree_lamp(as_lists(tree), list(setting)))
                for lot in all_lots(many):
                    self.gives(broken(setting, lot), broken_setting(list(setting), as_lists(lot)))
                    self.gives(lamp(tree, broken(setting, lot)), broken_lamp(tree, as_lists(lot), list(setting)))

    def test_lamps_of_great_trees(self):
        rng = random.Random(8)
        for tree in GREAT_TREES:
            for _ in range(5):
                setting, lot = drawn_setting(rng, 200), drawn_lot(rng, 200)
                self.gives(lamp(tree, setting), tree_lamp(tree, setting))
                self.gives(lamp(tree, broken(setting, lot)), broken_lamp(tree, lot, setting))

    def test_errors_in_order(self):
        self.fails(BadTree, 0, tree_lamp, None, None)
        self.fails(BadSetting, -1, tree_lamp, flat_tree(2), (0, 1, 1))
        self.fails(BadSetting, 1, tree_lamp, flat_tree(2), (0, True))
        self.fails(BadTree, 1, broken_lamp, 1, None, None)
        self.fails(BadLot, -1, broken_lamp, flat_tree(2), (), None)
        self.fails(BadLot, 0, broken_lamp, flat_tree(2), [(2, 0)], (0, 2))
        self.fails(BadSetting, 1, broken_lamp, flat_tree(2), [(1, 0)], (0, 2))


class LeftPartTest(Case):

    def test_small_trees(self):
        for tree in some_trees(4):
            for lot in all_lots(many_of(tree)):
                self.holds_left(tree, lot, left_part(as_lists(tree), as_lists(lot)))

    def holds_left(self, tree, lot, left):
        """The part has just the levers that still matter, and the lamp of the box."""
        settings = settings_of(many_of(tree))
        heeded = set()
        for setting in settings:
            own = lamp(tree, broken(setting, lot))
            for lever in range(len(setting)):
                flipped = setting[:lever] + (1 - setting[lever],) + setting[lever + 1:]
                if lamp(tree, broken(flipped, lot)) != own:
                    heeded.add(lever)
        if not heeded:
            self.gives(("lamp", lamp(tree, broken(settings[0], lot))), left)
            return
        kind, part = left
        self.assertEqual(kind, "part")
        self.assertEqual(sorted(levers_of(part)), sorted(heeded))
        numbers = {lever: at for at, lever in enumerate(sorted(heeded))}

        def renamed(piece):
            return numbers[piece] if isinstance(piece, int) else (piece[0], tuple(map(renamed, piece[1])))

        self.gives(renamed(part), check_tree(renamed(part)))
        for setting in settings:
            self.assertEqual(lamp(part, setting), lamp(tree, broken(setting, lot)))

    def test_words_join(self):
        tree = ("all", (0, ("any", (1, ("all", (2, 3))))))
        self.gives(("part", ("all", (0, 2, 3))), left_part(tree, [(1, 0)]))
        tree = ("all", (("any", (0, ("all", (1, 4)))), 2, 3))
        self.gives(("part", ("all", (1, 2, 3, 4))), left_part(tree, [(0, 0)]))
        tree = ("all", (("any", (0, 3)), ("any", (1, 2))))
        self.gives(("part", ("all", (("any", (1, 2)), 3))), left_part(tree, [(0, 0)]))

    def test_one_lever(self):
        self.gives(("lamp", 0), left_part(0, [(0, 0)]))
        self.gives(("lamp", 1), left_part(0, [(0, 1)]))

    def test_great_trees(self):
        for tree in GREAT_TREES:
            self.gives("part", left_part(tree, [(199, plain_value(tree))])[0])
        self.gives(("lamp", 0), left_part(flat_tree(200), [(lever, 1) for lever in range(199)] + [(199, 0)]))
        self.gives(("part", 199), left_part(flat_tree(200), [(lever, 1) for lever in range(199)]))
        even = [(lever, 0) for lever in range(1, 198, 2)]
        self.gives(("part", ("all", tuple(range(0, 200, 2)) + (199,))), left_part(chain_tree(200), even))

    def test_errors(self):
        self.fails(BadLot, -1, left_part, flat_tree(2), ())
        self.fails(BadLot, 1, left_part, flat_tree(2), [(0, 0), (0, 0)])


def plain_value(tree):
    """A place at which the last lever may be stuck while the lamp still hangs on others."""
    place = lever_place(tree, 199)
    return 1 if part_at(tree, place[:-1])[0] == "all" else 0


class HungTest(unittest.TestCase):

    def test_the_plain_search_knows_hanging(self):
        self.assertEqual(plain_hung(("all", (0, ("any", (1, 2)))), (1, 1, 0)), (0, 1))
        self.assertEqual(many_of(drawn_tree(random.Random(1), 7)), 7)


if __name__ == "__main__":
    unittest.main()
