"""Points 37 to 39: boxes of a tree's shape."""

import collections
import itertools
import random
import unittest

from deadlevers.errors import BadLot, BadSetting, BadTree, Refused, TooGreat
from deadlevers.shapes import (all_boxes, box_number, fault_lamp, lot_fault, lots_alike, needed_levers, own_fault,
                               parting_setting, plain_fault)
from helpers import (ANY_VALUES, GREAT_TREES, Case, all_lots, as_lists, broken, chain_tree, drawn_lot, drawn_trees,
                     flat_tree, lamp, many_of, pairs_tree, same, settings_of, some_trees, turned)
from shape_helpers import (ALL_KINDS, all_faults, drawn_fault, has_wide_knot, is_constant, plain_lamps, shape_lamp,
                           shape_lamps)

PAIRS = pairs_tree(4)
FIVE = ("any", (("all", (0, 1)), 2, 3, 4, 5))
MAJORITY = (0, 0, 0, 1, 0, 1, 1, 1)
SMALL_TREES = some_trees(3) + drawn_trees(1, 10, [4]) + drawn_trees(2, 14, [5, 6, 7]) + [FIVE]


def is_plain(tree, fault):
    """Whether it is told as the point tells plain faults."""
    if is_constant(fault):
        return True
    if isinstance(tree, int):
        return fault in ("alive", "turned")
    indexes, rule, faults = fault
    if list(indexes) != sorted(set(indexes)) or len(faults) != len(indexes) or any(map(is_constant, faults)):
        return False
    many = len(indexes)
    if isinstance(rule, tuple):
        thresholds = [tuple(int(bin(at).count("1") >= least) for at in range(2 ** many)) for least in range(many + 2)]
        if rule in thresholds or not all(any(rule[at] != rule[at | 1 << value] for at in range(2 ** many))
                                         for value in range(many)):
            return False
    elif not 1 <= rule <= many:
        return False
    return all(is_plain(tree[1][at], inner) for at, inner in zip(indexes, faults))


class FaultTest(Case):

    def test_lamps_and_needs(self):
        rng = random.Random(1)
        for tree in SMALL_TREES:
            settings = settings_of(many_of(tree))
            for _ in range(12):
                fault = drawn_fault(rng, tree, rng.choice([0, 0.2, 0.5]))
                lamps = {at: shape_lamp(tree, fault, at) for at in settings}
                for at in rng.sample(settings, min(8, len(settings))):
                    self.gives(lamps[at], fault_lamp(as_lists(tree), as_lists(fault), list(at)))
                needs = tuple(lever for lever in range(many_of(tree))
                              if any(lamps[at] != lamps[turned(at, lever)] for at in settings))
                self.gives(needs, needed_levers(tree, as_lists(fault)))

    def test_plain_faults_tell_boxes(self):
        rng = random.Random(2)
        for tree in SMALL_TREES:
            faults = [drawn_fault(rng, tree, rng.choice([0, 0.2, 0.6])) for _ in range(25)]
            faults += [own_fault(tree), lot_fault(tree, drawn_lot(rng, many_of(tree)))]
            boxes = [shape_lamps(tree, fault) for fault in faults]
            plains = [plain_fault(tree, as_lists(fault)) for fault in faults]
            for fault, box, plain in zip(faults, boxes, plains):
                self.assertTrue(is_plain(tree, plain), (tree, fault, plain))
                self.assertEqual(plain_lamps(tree, plain), box)
            for one, other in itertools.combinations(range(len(faults)), 2):
                self.assertEqual(plains[one] == plains[other], boxes[one] == boxes[other])
                found = parting_setting(tree, faults[one], as_lists(faults[other]))
                self.gives(boxes[one] == boxes[other], found is None)
                if found is not None:
                    self.assertTrue(same(found, tuple(found)) and len(found) == many_of(tree))
                    self.assertNotEqual(shape_lamp(tree, faults[one], found), shape_lamp(tree, faults[other], found))

    def test_plain_fault_examples(self):
        self.gives(0, plain_fault(PAIRS, ((0, 0, 0, 1), ((1, (0, 0)), (2, ("turned", 1))))))
        self.gives(((0, 1), 2, (((0, 1), 1, ("alive", "turned")), ((1,), 1, ("alive",)))),
                   plain_fault(PAIRS, [[0, 0, 0, 1], [[1, ["alive", "turned"]], [2, [1, "alive"]]]]))
        self.gives((0, "alive", "turned", 1), tuple(plain_fault(0, fault) for fault in (0, "alive", "turned", 1)))
        flat = flat_tree(4)
        two = tuple(int(bin(at).count("1") >= 2) for at in range(16))
        self.gives(((0, 1, 2, 3), 2, ("alive",) * 4), plain_fault(flat, (two, ("alive",) * 4)))
        self.gives(((0, 1, 3), 2, ("alive",) * 3), plain_fault(flat, (two, ("alive", "alive", 0, "alive"))))
        self.gives(((0, 1, 3), 1, ("alive",) * 3), plain_fault(flat, (two, ("alive", "alive", 1, "alive"))))
        self.gives(((0, 1, 3), 2, ("alive",) * 3), plain_fault(flat, (3, ("alive", "alive", 1, "alive"))))
        self.gives(((0, 1, 2), 2, ("alive",) * 3), plain_fault(flat, (MAJORITY + MAJORITY, ("alive",) * 4)))
        odd = (0, 0, 0, 1, 0, 1, 0, 1)
        self.gives(((0, 1, 2), odd, ("alive",) * 3), plain_fault(flat_tree(3), (odd, ("alive",) * 3)))
        self.gives(((0,), 1, ("turned",)), plain_fault(flat_tree(3), (odd, ("turned", 1, "alive"))))
        self.gives(1, plain_fault(flat_tree(3), (odd, (1, 1, "alive"))))

    def test_own_and_lot_faults(self):
        rng = random.Random(3)
        self.gives((2, ((1, ("alive", "alive")), (1, ("alive", "alive")))), own_fault(as_lists(PAIRS)))
        self.gives((2, ((1, ("alive", 1)), (1, (0, "alive")))), lot_fault(PAIRS, [[1, 1], [2, 0]]))
        self.gives(("alive", 0, 1), (own_fault(0), lot_fault(0, [(0, 0)]), lot_fault(0, [(0, 1)])))
        for tree in SMALL_TREES:
            lot = drawn_lot(rng, many_of(tree))
            for at in settings_of(many_of(tree)):
                self.gives(lamp(tree, at), fault_lamp(tree, own_fault(tree), at))
                self.gives(lamp(tree, broken(at, lot)), fault_lamp(tree, lot_fault(tree, lot), at))

    def test_great_trees(self):
        for tree in GREAT_TREES:
            own, other = own_fault(tree), lot_fault(tree, [(0, 1), (77, 0), (199, 0)])
            self.gives(tuple(range(200)), needed_levers(tree, own))
            found = parting_setting(tree, own, other)
            self.assertNotEqual(fault_lamp(tree, own, found), fault_lamp(tree, other, found))
            self.gives(None, parting_setting(tree, other, as_lists(other)))
            self.gives(True, plain_fault(tree, own) == plain_fault(tree, as_lists(own)))
        wide = (100, ("alive",) * 200)
        self.gives((tuple(range(200)),) + wide, plain_fault(flat_tree(200, "any"), wide))
        self.gives(1, fault_lamp(flat_tree(200), wide, (0, 1) * 100))
        self.gives(0, fault_lamp(flat_tree(200), wide, (0,) + (0, 1) * 99 + (0,)))

    def test_faults_that_are_none(self):
        good = [[0, 0, 0, 1], [[1, ["alive", 0]], [2, ["turned", 1]]]]
        plain_fault(PAIRS, good)
        for bent in ([3, good[1]], [0, good[1]], [True, good[1]], ["2", good[1]], [[0, 1, 0, 0], good[1]], [None, good[1]],
                     [[0, 0, 1], good[1]], [[0, 0, 0, 2], good[1]], [[0, 0, 0, True], good[1]], [2, good[1][:1]],
                     [2, good[1] + ["alive"]], [2, good[1], 0], [2], [2, ["alive", "alive"]], [2, [[1, ["alive", 2]], 0]],
                     [2, [[1, ["alive", 0]], [2, ["turned", True]]]], [2, [[1, ["alive", 0]], [2, ["dead", 0]]]],
                     [2, [[1, ["alive", 0]], [2, [["turned"], 0]]]], [[1, 0, 1, 1], good[1]], [-1, good[1]]):
            self.refuses(bent, plain_fault, PAIRS, bent)
        levers = ("alive",) * 4
        told = (tuple([0] * 31 + [1]), ((2, levers[:2]),) + levers)
        self.refuses(told, plain_fault, FIVE, told)
        plain_fault(FIVE, (5, ((2, levers[:2]),) + levers))

    def test_any_value(self):
        for value in ANY_VALUES:
            for call in (plain_fault, needed_levers):
                self.refuses(value, call, PAIRS, value)
            self.refuses(value, fault_lamp, PAIRS, value, (0,))
            self.refuses(value, parting_setting, PAIRS, value, None)
            self.refuses(value, parting_setting, PAIRS, own_fault(PAIRS), value)
            if same(value, 0) or same(value, 1):
                self.gives(value, plain_fault(0, value))
            else:
                self.refuses(value, plain_fault, 0, value)
            fault = (1, ("alive", value))
            if same(value, 0) or same(value, 1):
                plain_fault(flat_tree(2), fault)
            else:
                self.refuses(fault, plain_fault, flat_tree(2), fault)
            fault = (value, ("alive", "alive"))
            if same(value, 1) or same(value, 2):
                plain_fault(flat_tree(2), fault)
            else:
                self.refuses(fault, plain_fault, flat_tree(2), fault)

    def test_errors(self):
        own = own_fault(PAIRS)
        for call, more in ((own_fault, ()), (lot_fault, (None,)), (fault_lamp, (None, None)), (plain_fault, (None,)),
                           (needed_levers, (None,)), (parting_setting, (None, None)), (box_number, (None,)),
                           (lots_alike, (None,))):
            self.fails(BadTree, 0, call, ("all", (0,)), *more)
            self.fails(BadTree, 1, call, ("all", (0, 2)), *more)
        for call in (lot_fault, lots_alike):
            self.fails(BadLot, -1, call, PAIRS, ())
            self.fails(BadLot, 1, call, PAIRS, [(0, 1), (0, 0)])
            self.fails(BadLot, 0, call, PAIRS, [(4, 1)])
        self.fails(BadSetting, -1, fault_lamp, PAIRS, own, (0, 1, 0))
        self.fails(BadSetting, 2, fault_lamp, PAIRS, own, (0, 1, 2, None))


class BoxesTest(Case):

    def test_plain_search(self):
        trees = some_trees(3) + [PAIRS, chain_tree(4), flat_tree(4, "any")] + drawn_trees(4, 5, [5, 6])
        for tree in trees:
            for kinds in ALL_KINDS:
                if many_of(tree) > 3 and kinds[1] == "rising" or many_of(tree) > 4 and kinds[0]:
                    continue
                faults = all_faults(tree, kinds)
                boxes = {shape_lamps(tree, fault): fault for fault in faults}
                self.gives(len(boxes), box_number(as_lists(tree), kinds))
                found = all_boxes(tree, list(kinds), most=len(boxes))
                self.gives((0, 1), found[:2])
                self.assertEqual(sorted(map(repr, found)), sorted({repr(plain_fault(tree, boxes[box])) for box in boxes}))
                self.assertEqual({plain_lamps(tree, fault) for fault in found}, set(boxes))
                for most in (1, len(boxes) - 1):
                    with self.assertRaises(TooGreat) as caught:
                        all_boxes(tree, kinds, most=most)
                    self.gives(most, caught.exception.most)

    def test_numbers(self):
        self.gives((42, 314), (box_number(PAIRS, (False, "exchanged")), box_number(PAIRS, (True, "rising"))))
        for tree in SMALL_TREES + list(GREAT_TREES):
            self.gives(2 ** many_of(tree) + 1, box_number(tree, (False, "own")))
        self.gives((3, 4), (box_number(0, (False, "rising")), box_number(0, (True, "own"))))
        # One more box for each set of living levers with two of them at least, ALL beside ANY.
        self.gives(2 + 2 * (2 ** 200 - 1) - 200, box_number(flat_tree(200), (False, "exchanged")))
        self.gives(2 + 2 * (3 ** 200 - 1) - 400, box_number(flat_tree(200), (True, "exchanged")))
        self.gives(2 + 4 + 6 * 2 + 4 * 9 + 114, box_number(flat_tree(4), (False, "rising")))

    def test_many_boxes(self):
        found = all_boxes(flat_tree(4), (True, "rising"), most=20000)
        self.assertEqual(len(found), len({plain_lamps(flat_tree(4), fault) for fault in found}))
        self.gives(box_number(flat_tree(4), (True, "rising")), len(found))
        tree = pairs_tree(14)
        self.gives(2 ** 14 + 1, len(all_boxes(tree, (False, "own"), most=20000)))

    def test_kinds_that_are_none(self):
        values = ANY_VALUES + ((0, "own"), (1, "rising"), (True,), (True, "own", 0), ("own", True), (None, "own"),
                               (False, "Own"), (False, ["own"]), (False, 0), (False, ""), "own")
        for value in values:
            self.refuses(value, box_number, PAIRS, value)
            with self.assertRaises(Refused) as caught:
                all_boxes(PAIRS, value, most=1)
            self.assertIs(caught.exception.at, value)
        for kinds in ALL_KINDS:
            self.gives(True, box_number(PAIRS, kinds) == box_number(PAIRS, list(kinds)))
            for tree in (FIVE, flat_tree(5)):
                self.assertTrue(has_wide_knot(tree))
                if kinds[1] == "rising":
                    self.refuses(kinds, box_number, tree, kinds)
                else:
                    box_number(tree, kinds)


class AlikeTest(Case):

    def test_plain_search(self):
        for tree in some_trees(4) + drawn_trees(5, 8, [5, 6]):
            lots = all_lots(many_of(tree))
            boxes = {lot: tuple(lamp(tree, broken(at, lot)) for at in settings_of(many_of(tree))) for lot in lots}
            counts = collections.Counter(boxes.values())
            for lot in lots:
                self.gives(counts[boxes[lot]], lots_alike(tree, lot))

    def test_great_trees(self):
        self.gives(3 ** 200 - 2 ** 200, lots_alike(flat_tree(200), [[0, 0]]))
        self.gives(1, lots_alike(flat_tree(200), [(lever, 1) for lever in range(200)]))
        self.gives(1, lots_alike(pairs_tree(200), [(lever, 0) for lever in range(0, 200, 2)]))
        for tree in GREAT_TREES:
            self.assertGreater(lots_alike(tree, [(0, 0), (199, 1)]), 0)


if __name__ == "__main__":
    unittest.main()
