"""Point 40, the first half: how far boxes of a shape are from the tree."""

import itertools
import random
import time
import unittest

from deadlevers.afar import blind_number, nearest_box, off_counts
from deadlevers.errors import BadTree
from deadlevers.shapes import all_boxes, lot_fault, own_fault
from deadlevers.trials import hung_count
from helpers import (ANY_VALUES, GREAT_TREES, Case, as_lists, chain_tree, drawn_trees, flat_tree, lamp, many_of,
                     other_word, pairs_tree, plain_hung, same, settings_of, some_trees)
from shape_helpers import ALL_KINDS, all_faults, drawn_fault, plain_lamps, shape_lamp

PAIRS = pairs_tree(4)
FIVE = ("any", (("all", (0, 1)), 2, 3, 4, 5))


def remainders(levers, word):
    """A knot of the levers with unlike remainders by 3, each made likewise, down to single levers."""
    if len(levers) == 1:
        return levers[0]
    parts = [levers[rest::3] for rest in range(3)]
    return (word, tuple(remainders(part, other_word(word)) for part in parts if part))


class OffTest(Case):

    def test_plain_search(self):
        rng = random.Random(1)
        for tree in some_trees(3) + drawn_trees(2, 30, [4, 5, 6, 7]) + [FIVE]:
            settings = settings_of(many_of(tree))
            for _ in range(10):
                fault = drawn_fault(rng, tree)
                counts = [0, 0, 0, 0]
                for at in settings:
                    counts[2 * lamp(tree, at) + shape_lamp(tree, fault, at)] += 1
                self.gives(tuple(counts), off_counts(as_lists(tree), as_lists(fault)))

    def test_examples(self):
        self.gives((3, 4, 1, 8), off_counts(PAIRS, (1, ((1, ("alive", 0)), (1, ("alive", 0))))))
        self.gives((1, 0, 0, 1), off_counts(0, "alive"))
        self.gives((0, 1, 1, 0), off_counts(0, "turned"))
        self.gives(((1, 0, 1, 0), (0, 1, 0, 1)), (off_counts(0, 0), off_counts(0, 1)))

    def test_great_trees(self):
        for tree in GREAT_TREES:
            counts = off_counts(tree, own_fault(tree))
            self.gives((2 ** 200, 0, 0), (sum(counts), counts[1], counts[2]))
            counts = off_counts(tree, lot_fault(tree, [(9, 1)]))
            self.gives((2 ** 200, 0), (sum(counts), counts[2]))
            self.assertGreater(counts[1], 0)
        half = off_counts(flat_tree(200), (100, ("alive",) * 200))
        self.gives((2 ** 200, 0, 1), (sum(half), half[2], half[3]))

    def test_errors(self):
        for value in ANY_VALUES:
            self.refuses(value, off_counts, PAIRS, value)
        self.fails(BadTree, 0, off_counts, ("all", (0,)), None)
        self.fails(BadTree, 1, off_counts, ("any", (1, 0)), None)


class NearestTest(Case):

    def test_plain_search(self):
        for tree in some_trees(4) + drawn_trees(3, 30, [5, 6, 7]):
            many = many_of(tree)
            hung = [lever for at in settings_of(many) for lever in plain_hung(tree, at)]
            counts = [hung.count(lever) // 2 for lever in range(many)]
            self.gives((min(counts), counts.index(min(counts))), nearest_box(as_lists(tree)))
            self.gives(2 ** many - min(counts), blind_number(as_lists(tree)))

    def test_no_box_is_nearer(self):
        for tree in some_trees(3) + [PAIRS, chain_tree(4), flat_tree(4, "any")]:
            settings = settings_of(many_of(tree))
            own = tuple(lamp(tree, at) for at in settings)
            number, lever = nearest_box(tree)
            for kinds in ALL_KINDS:
                boxes = {plain_lamps(tree, fault) for fault in all_boxes(tree, kinds, most=20000)}
                wrong = [sum(one != other for one, other in zip(own, box)) for box in boxes if box != own]
                self.gives(number, min(wrong))
            for place in (0, 1):
                counts = off_counts(tree, lot_fault(tree, [(lever, place)]))
                self.gives(number, counts[1] + counts[2])

    def test_choices_of_settings(self):
        """Each choice of more settings than the blind number tells the tree from all boxes, some of just so many does not."""
        for tree in some_trees(3):
            settings = settings_of(many_of(tree))
            own = tuple(lamp(tree, at) for at in settings)
            boxes = {tuple(shape_lamp(tree, fault, at) for at in settings) for fault in all_faults(tree, (True, "rising"))}
            wrong = [{at for at, (one, other) in enumerate(zip(own, box)) if one != other} for box in boxes - {own}]
            blind = blind_number(tree)
            for count in (blind, blind + 1):
                tells = [all(set(chosen) & found for found in wrong)
                         for chosen in itertools.combinations(range(len(settings)), count)]
                self.gives(count > blind, all(tells))

    def test_edges(self):
        self.gives((1, 0), nearest_box(0))
        self.gives((3, 0), nearest_box(PAIRS))
        self.gives((1, 0), nearest_box(flat_tree(200)))
        self.gives(2 ** 200 - 1, blind_number(flat_tree(200, "any")))
        self.gives((1, 198), nearest_box(chain_tree(200)))
        self.gives(True, same(nearest_box(("all", (0, ("any", (1, 2))))), (1, 1)))
        for tree in GREAT_TREES:
            number, lever = nearest_box(tree)
            counts = off_counts(tree, lot_fault(tree, [(lever, 0)]))
            self.gives(number, counts[2])
            self.gives(2 ** 200 - number, blind_number(tree))

    def test_great_trees_lever_by_lever(self):
        """Nothing but the counts of the single levers, whatever the tree looks like."""
        for tree in [flat_tree(200), flat_tree(200, "any"), chain_tree(200), remainders(list(range(200)), "all"),
                     remainders(list(range(60)), "any"), pairs_tree(60)] + drawn_trees(4, 3, [40, 60]):
            counts = [hung_count(tree, lever) for lever in range(many_of(tree))]
            self.gives((min(counts), counts.index(min(counts))), nearest_box(tree))
            self.gives(2 ** many_of(tree) - min(counts), blind_number(tree))

    def test_it_takes_little(self):
        """About as long as `off_counts`, not as long as going through the tree for each lever."""
        for tree in (flat_tree(200), chain_tree(200), remainders(list(range(200)), "all")):
            own = own_fault(tree)
            least = {}
            for name, call in (("off", lambda: off_counts(tree, own)), ("near", lambda: nearest_box(tree)),
                               ("blind", lambda: blind_number(tree))):
                times = []
                for _ in range(5):
                    start = time.perf_counter()
                    call()
                    times.append(time.perf_counter() - start)
                least[name] = min(times)
            self.assertLess(max(least["near"], least["blind"]), 4 * least["off"])

    def test_errors(self):
        for call in (nearest_box, blind_number):
            self.fails(BadTree, 0, call, ("all", (0,)))
            self.fails(BadTree, 1, call, 3)


if __name__ == "__main__":
    unittest.main()
