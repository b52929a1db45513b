"""Point 35: sizes."""

import itertools
import unittest

from deadlevers.errors import Refused
from deadlevers.sizes import least_trials, size_pairs, sized_tree, tree_numbers
from deadlevers.trees import check_tree, tree_levers
from deadlevers.updown import trial_counts
from helpers import ANY_VALUES, Case, all_trees, plain_counts, same


def shape(tree):
    """What stays of a tree if levers have no names and parts no order."""
    if isinstance(tree, int):
        return "x"
    return tree[0] + "(" + ",".join(sorted(map(shape, tree[1]))) + ")"


def all_shapes(many):
    """All shapes with so many levers, as trees with levers without names, as (word, parts) by sorted texts."""
    made = {1: [(0, "x", "")]}
    for count in range(2, many + 1):
        made[count] = []
        for word in ("all", "any"):
            for sizes in partitions(count):
                groups = [(size, len(list(group))) for size, group in itertools.groupby(sizes)]
                pools = []
                for size, times in groups:
                    able = [part for part in made[size] if part[2] != word]
                    pools.append(list(itertools.combinations_with_replacement(able, times)))
                for chosen in itertools.product(*pools):
                    parts = [part[0] for group in chosen for part in group]
                    text = word + "(" + ",".join(sorted(part[1] for group in chosen for part in group)) + ")"
                    made[count].append(((word, tuple(parts)), text, word))
    return made[many]


def partitions(count, most=None):
    """The ways to write a number as two numbers or more, descending."""
    most = count - 1 if most is None else most
    if count == 0:
        yield ()
    for first in range(min(count, most), 0, -1):
        for rest in partitions(count - first, first):
            yield (first,) + rest


class SizesTest(Case):

    def test_pairs_of_trees(self):
        for many in range(1, 6):
            worth = sorted({trial_counts(tree) for tree in all_trees(many)})
            self.gives(tuple(worth), size_pairs(many))

    def test_pairs_as_told(self):
        for many in (6, 12, 60):
            worth = [(up, down) for up in range(1, many + 1) for down in range(1, many + 1)
                     if up * down >= many and up + down - 1 <= many]
            self.gives(tuple(worth), size_pairs(many))

    def test_least_trials(self):
        for many in list(range(1, 60)) + [99, 100, 101, 199, 200]:
            self.gives(min(up + down for up, down in size_pairs(many)), least_trials(many))
        for root in (3, 10 ** 9, 10 ** 9 - 1, 999999937):
            self.gives(2 * root, least_trials(root * root))
            self.gives(2 * root, least_trials(root * root - 1))
            self.gives(2 * root - 1, least_trials(root * (root - 1)))
            self.gives(2 * root, least_trials(root * (root - 1) + 1))
        self.gives(2 * 10 ** 9, least_trials(10 ** 18))

    def test_sized_trees(self):
        for many in list(range(1, 30)) + [200]:
            for up, down in size_pairs(many) if many < 200 else size_pairs(many)[::97] + size_pairs(many)[-1:]:
                tree = sized_tree(many, up, down)
                self.gives(tree, check_tree(tree))
                self.gives((many, (up, down)), (tree_levers(tree), trial_counts(tree)))

    def test_refused_pairs(self):
        for many in (1, 4, 9, 12):
            for pair in itertools.product(range(-2, many + 3), repeat=2):
                if pair not in size_pairs(many):
                    self.fails(Refused, pair, sized_tree, many, *pair)
        for value in ANY_VALUES:
            if not any(same(value, number) for number in (2, 7)):
                self.fails(Refused, (value, 2), sized_tree, 4, value, 2)
                self.fails(Refused, (2, value), sized_tree, 4, 2, value)
        self.fails(Refused, (True, 1), sized_tree, 1, True, 1)

    def test_refused_levers(self):
        for value in ANY_VALUES:
            if not any(same(value, number) for number in (1, 2, 7)):
                for call in (size_pairs, least_trials, tree_numbers):
                    self.refuses(value, call, value)
                self.refuses(value, sized_tree, value, None, None)
        self.fails(Refused, 201, size_pairs, 201)
        self.fails(Refused, 201, sized_tree, 201, 1, 201)
        self.fails(Refused, 15, tree_numbers, 15)
        self.fails(Refused, 10 ** 18 + 1, least_trials, 10 ** 18 + 1)

    def test_numbers_of_small_trees(self):
        for many in range(1, 6):
            shapes = {shape(tree): trial_counts(tree) for tree in all_trees(many)}
            pairs = sorted(set(shapes.values()))
            worth = tuple((up, down, list(shapes.values()).count((up, down))) for up, down in pairs)
            self.gives(worth, tree_numbers(many))

    def test_numbers_of_shapes(self):
        for many in range(1, 10):
            found = [plain_counts(told[0]) for told in all_shapes(many)]
            self.assertEqual(len({told[1] for told in all_shapes(many)}), len(found))
            worth = tuple((up, down, found.count((up, down))) for up, down in sorted(set(found)))
            self.gives(worth, tree_numbers(many))

    def test_numbers_at_the_limit(self):
        found = tree_numbers(14)
        self.gives(size_pairs(14), tuple((up, down) for up, down, _ in found))
        # As many as there are graphs of 14 points without a way of four points as a part.
        self.gives(437502, sum(number for _, _, number in found))
        self.gives(((1, 1, 1),), tree_numbers(1))


if __name__ == "__main__":
    unittest.main()
