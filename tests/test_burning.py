"""Point 9 for trees: the settings at which the lamp burns."""

import random
import unittest

from deadlevers.burning import burning_at, burning_before, burning_number
from deadlevers.errors import BadSetting, BadTree, Refused
from deadlevers.trees import tree_lamp
from helpers import (ANY_VALUES, GREAT_TREES, Case, as_lists, drawn_setting, drawn_trees, flat_tree, lamp, many_of,
                     number_of, numbered_settings, some_trees)


class BurningTest(Case):

    def test_plain_search(self):
        for tree in some_trees(4) + drawn_trees(3, 10, [6, 8]):
            settings = numbered_settings(many_of(tree))
            burning = [setting for setting in settings if lamp(tree, setting) == 1]
            self.gives(len(burning), burning_number(as_lists(tree)))
            self.gives(tuple(burning), tuple(burning_at(as_lists(tree), at) for at in range(len(burning))))
            self.fails(Refused, len(burning), burning_at, tree, len(burning))
            for setting in settings:
                before = sum(number_of(at) < number_of(setting) for at in burning)
                self.gives(before, burning_before(as_lists(tree), list(setting)))

    def test_one_lever(self):
        self.gives((1, (1,), 0, 0), (burning_number(0), burning_at(0, 0), burning_before(0, (0,)),
                                     burning_before(0, (1,))))

    def test_limits(self):
        rng = random.Random(2)
        for tree in GREAT_TREES:
            count = burning_number(tree)
            for number in (0, count - 1, rng.randrange(count)):
                setting = burning_at(tree, number)
                self.assertEqual((tree_lamp(tree, setting), burning_before(tree, setting)), (1, number))
            self.assertEqual(burning_before(tree, (1,) * 200), count - 1)
            setting = drawn_setting(rng, 200)
            self.assertLessEqual(burning_before(tree, setting), number_of(setting))
        self.gives(2 ** 200 - 1, burning_number(flat_tree(200, "any")))
        self.gives((0,) * 199 + (1,), burning_at(flat_tree(200, "any"), 2 ** 199 - 1))

    def test_errors(self):
        self.fails(BadTree, 0, burning_number, ("all", (0,)))
        self.fails(BadTree, 1, burning_at, 1, None)
        self.fails(BadTree, 1, burning_before, ("all", (1, 0)), None)
        for value in ANY_VALUES:
            if type(value) is not int or not 0 <= value < 3:
                self.fails(Refused, value, burning_at, flat_tree(2, "any"), value)
            if not isinstance(value, (list, tuple)) or len(value) != 2:
                self.fails(BadSetting, -1, burning_before, flat_tree(2), value)
        self.fails(BadSetting, 1, burning_before, flat_tree(2), (0, True))


if __name__ == "__main__":
    unittest.main()
