"""Points 56 to 58: carriers and stoppers, the fewest trials of rising boxes, scales."""

import inspect
import itertools
import math
import random
import unittest

from deadlevers.cheap import (Scale, carriers, even_scale, fewest_trials, half_lot, half_number, half_place, least_cover,
                              other_half, rest_lot, scale_lamp, scale_list, scale_table, shared_sizes, stoppers)
from deadlevers.cores import found_tree
from deadlevers.errors import BadSetting, Refused, TooGreat
from deadlevers.tables import Table
from helpers import (ANY_VALUES, Case, all_lots, as_lists, broken, drawn_rising, drawn_trees, full_tables, heeds_all,
                     numbered_settings, plain_table, rises, same, settings_of, table_at, table_hangs)
from test_killers import BAD_TABLES

MAJORITY = Table([0, 0, 0, 1, 0, 1, 1, 1])
RNG = random.Random(1)
TABLES = full_tables(4) + [drawn_rising(RNG, many) for many in (5, 5, 5, 6, 7)]
TABLES += [plain_table(tree) for tree in drawn_trees(2, 6, [5, 6])]
HALF = Table([int(sum(at) >= 5) for at in numbered_settings(10)])


def least_sets(sets):
    """Those that hold no other one, smaller first, then ascending, as tuples."""
    found = {frozenset(own) for own in sets}
    least = [tuple(sorted(own)) for own in found if not any(other < own for other in found)]
    return tuple(sorted(least, key=lambda lot: (len(lot), lot)))


def plain_edges(table, place):
    settings = settings_of(table.levers)
    return least_sets([lever for lever, stands in enumerate(at) if stands == place] for at in settings
                      if table_at(table, at) == place)


def plain_cover(lots, levers):
    for count in range(len(lots) + 1):
        for chosen in itertools.combinations(range(len(lots)), count):
            if set().union(*[lots[at] for at in chosen]) == set(range(levers)):
                return chosen
    return None


class CarrierTest(Case):

    def test_plain_search(self):
        for table in TABLES:
            lit, out = plain_edges(table, 1), plain_edges(table, 0)
            self.gives((lit, out), (carriers(table), stoppers(table)))
            shared = [len(set(one) & set(other)) for one in lit for other in out]
            self.gives((min(shared), max(shared)), shared_sizes(table))
            self.assertGreaterEqual(min(shared), 1)
            self.gives(found_tree(table) is not None, shared_sizes(table) == (1, 1))

    def test_edges(self):
        self.gives((((0,),), ((0,),), (1, 1)), (carriers(Table([0, 1])), stoppers(Table([0, 1])), shared_sizes(Table([0, 1]))))
        self.gives(((0, 1), (0, 2), (1, 2)), carriers(MAJORITY))
        self.gives((252, 210, (1, 5)), (len(carriers(HALF)), len(stoppers(HALF)), shared_sizes(HALF)))

    def test_refused_tables(self):
        for table in BAD_TABLES:
            for call in (carriers, stoppers, shared_sizes, fewest_trials):
                self.refuses(table, call, table)


class CoverTest(Case):

    def test_plain_search(self):
        rng = random.Random(3)
        for _ in range(400):
            levers = rng.randint(0, 6)
            lots = [rng.sample(range(levers), rng.randint(0, levers)) for _ in range(rng.randint(0, 8))]
            self.gives(plain_cover(lots, levers), least_cover(lots, levers))
            self.gives(plain_cover(lots, levers), least_cover(tuple(map(tuple, lots)), levers))

    def test_edges(self):
        self.gives(((), None, ()), (least_cover([], 0), least_cover([], 1), least_cover([[0], [1]], 0)))
        self.gives(((1,), None), (least_cover([[0], [0, 1], [0, 1]], 2), least_cover([[0], [0]], 2)))
        self.gives((0, 1, 2), least_cover([[0], [1], [2], [0, 1]][:3], 3))

    def test_limits(self):
        rng = random.Random(4)
        lots = [sorted(rng.sample(range(10), rng.randint(1, 3))) for _ in range(60)]
        found = least_cover(lots, 10)
        self.assertEqual(set(range(10)), set().union(*[lots[at] for at in found]))
        self.gives(4, len(found))
        ones = [[at % 10] for at in range(60)]
        self.gives(tuple(range(10)), least_cover(ones, 10))

    def test_fewest_trials(self):
        for table in TABLES:
            many = table.levers
            found = fewest_trials(table)
            for place, settings in zip((1, 0), found):
                lots = plain_edges(table, place)
                chosen = [lots[at] for at in plain_cover(lots, many)]
                self.gives(tuple(tuple(place if lever in lot else 1 - place for lever in range(many)) for lot in chosen), settings)
                cleared = [set(table_hangs(table, at)) for at in settings]
                self.assertTrue(all(table_at(table, at) == place for at in settings))
                self.assertEqual(set().union(*cleared), set(range(many)))
                sets = {frozenset(table_hangs(table, at)) for at in settings_of(many) if table_at(table, at) == place}
                sets = [own for own in sets if not any(own < other for other in sets)]
                if many < 6:
                    fewer = itertools.combinations(sets, len(settings) - 1)
                    self.assertFalse(any(len(frozenset().union(*chosen)) == many for chosen in fewer))
            if many > 2:
                self.assertGreaterEqual(len(found[0]) + len(found[1]), 4)
        self.gives((((1, 1, 0), (1, 0, 1)), ((0, 0, 1), (0, 1, 0))), fewest_trials(MAJORITY))
        self.gives((2, 2), tuple(map(len, fewest_trials(HALF))))


def half_lots(weights):
    """All lots of half the weight, ascending."""
    many = len(weights)
    return sorted(lot for count in range(many + 1) for lot in itertools.combinations(range(many), count)
                  if 2 * sum(weights[lever] for lever in lot) == sum(weights))


def drawn_weights(rng, many):
    weights = [rng.randint(1, rng.choice([2, 6, 100])) for _ in range(many)]
    if sum(weights) % 2 == 1:
        weights[0] += 1 if weights[0] < 100 else -1
    return weights


class HalfTest(Case):

    def test_plain_search(self):
        rng = random.Random(5)
        for _ in range(120):
            weights = drawn_weights(rng, rng.randint(2, 10))
            lots = half_lots(weights)
            self.gives(len(lots), half_number(weights))
            for number, lot in enumerate(lots):
                self.gives(lot, half_lot(tuple(weights), number))
                self.gives(number, half_place(weights, list(lot)))
                rest = rest_lot(weights, list(lot))
                self.gives(tuple(lever for lever in range(len(weights)) if lever not in lot), rest)
            self.fails(Refused, len(lots), half_lot, weights, len(lots))

    def test_great_weights(self):
        rng = random.Random(6)
        weights = [rng.randint(60, 100) for _ in range(199)]
        weights.append(100 - sum(weights) % 2)
        number = half_number(weights)
        for at in (0, number // 3, number - 1):
            lot = half_lot(weights, at)
            self.gives(at, half_place(weights, lot))
            self.assertEqual(2 * sum(weights[lever] for lever in lot), sum(weights))
        self.gives(0, half_number([100] + [1] * 98))
        self.fails(Refused, 0, half_lot, [100] + [1] * 98, 0)

    def test_named_weights(self):
        """Those of even scales, even and odd in number, and some of which no lot, or but two lots have half."""
        scales = [even_scale(levers).weights for levers in range(4, 11)]
        for weights in scales + [(1, 3), (2, 4, 100), (1, 1, 1, 5), (1, 1), (1, 2, 3), (5, 1, 1, 1, 1, 1), (100,) * 10]:
            lots = half_lots(weights)
            self.gives(len(lots), half_number(weights))
            self.gives(lots, [half_lot(list(weights), number) for number in range(len(lots))])
            self.gives(list(range(len(lots))), [half_place(weights, lot) for lot in lots])
            self.fails(Refused, len(lots), half_lot, weights, len(lots))
            for lot in lots:
                third = [other for other in lots if other not in (lot, rest_lot(weights, lot))]
                self.gives(third[0] if third else None, other_half(Scale(weights, lot)))

    def test_two_hundred_weights(self):
        rng = random.Random(8)
        for weights in ([1 + (37 * i) % 100 for i in range(200)], [1] * 200, [2] + [1] * 198, [100] * 200,
                        [rng.randint(1, 100) * 2 for _ in range(50)] + [1] * 150):
            weights = [min(100, weight) for weight in weights]
            number = half_number(weights)
            lots = [half_lot(weights, at) for at in (0, 1, 2)]
            self.assertTrue(lots[0] < lots[1] < lots[2])
            for at in (0, 1, 2, number // 7, number // 2, number - 2, number - 1):
                lot = half_lot(weights, at)
                self.assertEqual(2 * sum(weights[lever] for lever in lot), sum(weights))
                self.gives(at, half_place(weights, lot))
            for at in (number, number + 1, -1, 2 ** 300):
                self.fails(Refused, at, half_lot, weights, at)
            scale = Scale(weights, lots[0])
            rest = rest_lot(weights, lots[0])
            self.gives([lot for lot in lots if lot not in (lots[0], rest)][0], other_half(scale))
            self.gives(lots[0], other_half(Scale(weights, lots[1])))

    def test_counts_of_even_weights(self):
        """Of n weights 1 half can be chosen in as many ways as n over n / 2."""
        for many in (2, 4, 10, 100, 200):
            self.gives(math.comb(many, many // 2), half_number((1,) * many))
            self.gives(tuple(range(many // 2, many)), half_lot((1,) * many, math.comb(many, many // 2) - 1))

    def test_errors(self):
        good = [1, 1, 2]
        bad = ANY_VALUES + ([1], [1, 2], [0, 2], [1, 101], [101, 101], [1, -1], [1, True], [2] * 201, [1, 1, "2"], (2, 2.0))
        for value in bad:
            if same(value, (1, 1)) or same(value, [1, 1]):
                continue
            for call, more in ((half_number, ()), (half_lot, (None,)), (half_place, (None,)), (rest_lot, (None,)),
                               (Scale, (None,))):
                self.refuses(value, call, value, *more)
        for value in ANY_VALUES + ((0,), (2, 0), [0, 1, 2], (0, 0), [1, 0], (0, 2), (3,), (-1, 2)):
            if same(value, (0, 1)) or same(value, [0, 1]):
                continue
            for call in (half_place, rest_lot, Scale):
                self.refuses(value, call, good, value)
            if not (same(value, 0) or same(value, 1)):
                self.refuses(value, half_lot, good, value)
        self.gives((2, (2,), 1), (half_number(good), half_lot(good, 1), half_place(good, [2])))


class ScaleTest(Case):

    def test_plain_search(self):
        rng = random.Random(7)
        for _ in range(60):
            weights = drawn_weights(rng, rng.randint(2, 6))
            lots = half_lots(weights)
            for lot in rng.sample(lots, min(4, len(lots))):
                self.holds(weights, lot, lots)

    def test_other_halves(self):
        rng = random.Random(9)
        for _ in range(60):
            weights = drawn_weights(rng, rng.randint(2, 10))
            lots = half_lots(weights)
            for lot in lots[:4] + rng.sample(lots, min(4, len(lots))):
                own = (lot, rest_lot(weights, lot))
                third = [other for other in lots if other not in own]
                self.gives(third[0] if third else None, other_half(Scale(weights, lot)))

    def holds(self, weights, lot, lots):
        scale = Scale(list(weights), list(lot))
        rest = rest_lot(weights, lot)
        self.gives((tuple(weights), lot, sum(weights) // 2), (scale.weights, scale.lot, scale.half))
        table = scale_table(scale)
        for at in settings_of(len(weights)):
            up = tuple(lever for lever, place in enumerate(at) if place)
            weight = sum(weights[lever] for lever in up)
            worth = int(weight > scale.half or weight == scale.half and up in (lot, rest))
            self.gives(worth, scale_lamp(scale, list(at)))
            self.gives(worth, table_at(table, at))
        self.assertTrue(rises(table))
        third = [other for other in lots if other not in (lot, rest)]
        self.gives(third[0] if third else None, other_half(scale))
        for other in third[:3]:
            found = scale_list(scale, list(other))
            ups = [tuple(lever for lever, place in enumerate(at) if place) for at in found]
            self.gives([lot, rest, other, rest_lot(weights, other)], ups)
            self.assertTrue(isinstance(found, tuple) and heeds_all(table))
            self.assertEqual(len({(lever, at[lever]) for at in found for lever in table_hangs(table, at)}), 2 * len(weights))
            for dead in all_lots(len(weights)):
                self.assertTrue(any(table_at(table, broken(at, dead)) != table_at(table, at) for at in found))
        for other in (lot, rest):
            self.refuses(other, scale_list, scale, other)

    def test_equal_scales(self):
        one = Scale([1, 1, 1, 1], [0, 1])
        self.assertTrue(one == Scale((1, 1, 1, 1), (0, 1)))
        self.assertFalse(one == Scale([1, 1, 1, 1], [2, 3]))
        self.assertFalse(one == Scale([2, 2, 2, 2], [0, 1]))
        for value in ((one.weights, one.lot), None, MAJORITY, 0):
            self.assertFalse(one == value)
        self.assertEqual(list(inspect.signature(Scale).parameters), ["weights", "lot"])
        weights, lot = [1, 1], [0]
        scale = Scale(weights, lot)
        weights.append(2)
        lot.append(1)
        self.gives(((1, 1), (0,), 1), (scale.weights, scale.lot, scale.half))

    def test_even_scales(self):
        self.gives((((0, 1), 6, (0, 2))), (even_scale(4).lot, half_number(even_scale(4).weights), other_half(even_scale(4))))
        self.gives(((1, 1, 0, 0), (0, 0, 1, 1), (1, 0, 1, 0), (0, 1, 0, 1)), scale_list(even_scale(4), (0, 2)))
        for levers in range(4, 40):
            scale = even_scale(levers)
            self.gives((2 if levers % 2 else 1,) + (1,) * (levers - 1), scale.weights)
            self.gives(half_lot(scale.weights, 0), scale.lot)
            self.assertIsNotNone(other_half(scale))
        for levers in (199, 200):
            self.gives(levers, len(even_scale(levers).weights))
            self.gives(4, len(scale_list(even_scale(levers), other_half(even_scale(levers)))))
        for value in ANY_VALUES + (3, 201, 4.0, "4", (4,), [5]):
            if not same(value, 7):
                self.refuses(value, even_scale, value)

    def test_no_third_half(self):
        for weights, lot in (([1, 1], [0]), ([1, 1, 2], [0, 1]), ([3, 1, 1, 1], [0]), ([1, 3, 2], [1])):
            scale = Scale(weights, lot)
            self.gives(None, other_half(scale))
            for value in ANY_VALUES:
                self.refuses(value, scale_list, scale, value)

    def test_errors(self):
        scale = even_scale(4)
        for value in ANY_VALUES + ((0, 1), (2, 3), (1, 0), (0,), (0, 1, 2), (0, 4), (2, 0), [0, True]):
            self.refuses(value, scale_list, scale, value)
            with self.assertRaises(BadSetting):
                scale_lamp(scale, value if not same(value, (0, 1, 0, 1)) else None)
        self.fails(BadSetting, -1, scale_lamp, scale, (0, 1, 0))
        self.fails(BadSetting, 3, scale_lamp, scale, [0, 1, 0, 2])
        self.fails(TooGreat, 10, scale_table, even_scale(11))
        self.gives(1024, len(scale_table(even_scale(10)).lamps))
        self.gives(as_lists(scale_list(scale, [0, 2])), as_lists(scale_list(scale, (0, 2))))


if __name__ == "__main__":
    unittest.main()
