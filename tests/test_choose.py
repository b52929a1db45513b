"""Points 67 to 69: formulas, what clears their levers, and what stands against honesty."""

import random
import unittest

from deadlevers.choose import (check_formula, formula_broken, formula_cleared, formula_fault, formula_lamp,
                               formula_levers, negated_formula)
from deadlevers.errors import BadList, BadLot, BadSetting, BadTree
from deadlevers.trees import check_tree
from formula_helpers import (PlainFormula, count_of, deep_formula, drawn_formula, inner_of, is_lever, lamp_of,
                             small_formulas)
from helpers import (ANY_VALUES, GREAT_TREES, Case, all_lots, as_lists, broken, drawn_list, drawn_lot, drawn_setting,
                     knotted, nested, same, settings_of, some_trees)

LIFT = ("choose", 0, ("all", (1, 2)), ("not", 3))
CALLS = [(formula_levers, ()), (formula_lamp, (None,)), (formula_broken, (None, None)), (negated_formula, ()),
         (formula_cleared, (None,)), (formula_fault, ())]
WRONG_FORMS = (
    ("not", 0, 0), ("not", ("not", 0)), ("not", ("all", (0, 1))), ("not", -1), ("not", True), ("not",), ["not", [0]],
    ("choose", 0, 1), ("choose", 0, 1, 2, 3), ("choose", (0, 1, 2)), ("choose", 0, 1, None), ("Choose", 0, 1, 2),
    ("all", (0, ("all", (1, 2)))), ("all", (("not", 0),)), ("any", (0, ("choose", 1, 2, True))), ("choose", 0, ("all", (1,)), 2),
    ("choose", 0, ("any", (1, ("any", (2, 3)))), 4), ("none", (0, 1)), ("choose", "0", 1, 2), deep_formula(100),
    ("all", tuple(range(201))), ("choose", 0, ("all", tuple(range(1, 200))), ("any", (200, 201))), nested(list, 40, ("not", 0)),
)
WRONG_LEVERS = (
    1, ("not", 1), ("choose", 0, 1, 1), ("choose", 0, ("not", 0), 1), ("all", (1, 0)), ("all", (("not", 1), 0)),
    ("choose", 3, ("any", (2, 1)), 0), ("all", (("choose", 3, 1, 2), 0)), ("all", (0, ("not", 2))), ("any", (0, 10 ** 30)),
    ("all", (2, ("choose", 0, 1, 3))),
)


def is_knot(formula):
    return not is_lever(formula)


def is_tall(formula):
    return is_knot(formula) and (formula[0] == "choose" or any(map(is_knot, formula[1])))


def plain_fault(formula, place=()):
    """What stands against honesty at the first place."""
    if is_lever(formula):
        return None
    if formula[0] == "choose":
        if is_tall(formula[1]):
            return ("chooser", place)
    else:
        tall = [at for at, part in enumerate(formula[1]) if is_tall(part)]
        if len(tall) > 1:
            return ("tall", place, (tall[0], tall[1]))
    found = [plain_fault(part, place + (at,)) for at, part in enumerate(inner_of(formula))]
    return next((fault for fault in found if fault), None)


class CheckTest(Case):

    def test_formulas(self):
        rng = random.Random(1)
        drawn = [drawn_formula(rng, rng.randint(1, 30)) for _ in range(100)]
        for formula in small_formulas(4) + drawn + list(GREAT_TREES) + some_trees(3) + [LIFT, ("not", 0), deep_formula(99)]:
            self.gives(formula, check_formula(formula))
            self.gives(formula, check_formula(as_lists(formula)))
            self.gives(count_of(formula), formula_levers(as_lists(formula)))

    def test_order(self):
        """In a CHOOSE parts need no order."""
        formula = ("all", (("choose", 2, ("any", (("not", 0), 4)), 1), 3))
        self.gives(formula, check_formula(formula))

    def test_wrong_forms(self):
        for value in WRONG_FORMS:
            self.fails(BadTree, 0, check_formula, value)
            for call, more in CALLS:
                self.fails(BadTree, 0, call, as_lists(value), *more)
        for value in WRONG_LEVERS:
            self.fails(BadTree, 1, check_formula, value)
            for call, more in CALLS:
                self.fails(BadTree, 1, call, value, *more)

    def test_any_values(self):
        for value in ANY_VALUES + (knotted(41), ("choose",) * 4, ["choose", [], [], []]):
            if isinstance(value, int) and not isinstance(value, bool) and value >= 0:
                continue
            for call, more in CALLS + [(check_formula, ())]:
                self.fails(BadTree, 0, call, value, *more)
        self.gives(0, check_formula(0))
        self.fails(BadTree, 1, check_formula, 10 ** 30)

    def test_lists_in_themselves(self):
        value = ["choose", 0, 1]
        value.append(value)
        self.fails(BadTree, 0, check_formula, value)


class LampTest(Case):

    def test_plain_search(self):
        rng = random.Random(2)
        for formula in small_formulas(3) + [drawn_formula(rng, rng.randint(1, 6)) for _ in range(150)]:
            other = negated_formula(as_lists(formula))
            self.gives(other, check_formula(other))
            self.gives(formula, negated_formula(other))
            many = count_of(formula)
            for at in settings_of(many):
                self.gives(lamp_of(formula, at), formula_lamp(as_lists(formula), list(at)))
                self.gives(1 - lamp_of(formula, at), formula_lamp(other, at))
                lot = drawn_lot(rng, many)
                self.gives(lamp_of(formula, broken(at, lot)), formula_broken(formula, as_lists(lot), list(at)))

    def test_choosers_stay(self):
        chooser = ("all", (("not", 0), ("choose", 1, ("any", (2, 3)), 4)))
        formula = ("choose", chooser, ("choose", 5, 6, ("not", 7)), ("any", (8, ("not", 9))))
        worth = ("choose", chooser, ("choose", 5, ("not", 6), 7), ("all", (("not", 8), 9)))
        self.gives(worth, negated_formula(formula))
        self.gives((("not", 0), 0), (negated_formula(0), negated_formula(("not", 0))))

    def test_great_formulas(self):
        rng = random.Random(3)
        for formula in [drawn_formula(rng, 200) for _ in range(3)] + [deep_formula(40), deep_formula(99), GREAT_TREES[0]]:
            many = count_of(formula)
            for _ in range(3):
                at, lot = drawn_setting(rng, many), drawn_lot(rng, many)
                self.gives(lamp_of(formula, at), formula_lamp(formula, at))
                self.gives(lamp_of(formula, broken(at, lot)), formula_broken(formula, lot, at))
                self.gives(1 - lamp_of(formula, at), formula_lamp(negated_formula(formula), at))

    def test_errors(self):
        for value in ANY_VALUES:
            with self.assertRaises(BadSetting):
                formula_lamp(LIFT, value)
            with self.assertRaises(BadSetting):
                formula_broken(LIFT, [(0, 1)], value)
            if not (isinstance(value, (list, tuple)) and value and same(value[0], (0, 0)) or same(value, ((0, 1),))
                    or same(value, [[0, 0]])):
                with self.assertRaises(BadLot):
                    formula_broken(LIFT, value, value)
        self.fails(BadSetting, 3, formula_lamp, LIFT, (0, 1, 0, 2))
        self.fails(BadSetting, -1, formula_lamp, LIFT, (0, 1, 0))
        self.fails(BadLot, 1, formula_broken, LIFT, [(0, 1), (0, 0)], None)
        self.fails(BadLot, -1, formula_broken, LIFT, [], None)
        self.fails(BadSetting, -1, formula_broken, LIFT, [(0, 1)], None)


class ClearTest(Case):

    def test_plain_search(self):
        rng = random.Random(4)
        for formula in small_formulas(3) + [drawn_formula(rng, rng.randint(1, 6)) for _ in range(150)]:
            plain = PlainFormula(formula)
            for count in (0, 1, 2, 5):
                settings = drawn_list(rng, plain.many, count)
                found = plain.cleared(settings)
                worth = tuple(tuple(lever for lever in range(plain.many) if (lever, place) in found) for place in (1, 0))
                self.gives(worth, formula_cleared(as_lists(formula), as_lists(settings)))

    def test_great_lists(self):
        rng = random.Random(5)
        formula = drawn_formula(rng, 200)
        settings = drawn_list(rng, 200, 400)
        up, down = formula_cleared(formula, settings)
        self.assertEqual((up, down), (tuple(sorted(set(up))), tuple(sorted(set(down)))))
        for at in settings[:3]:
            lamp = lamp_of(formula, at)
            for lever in range(200):
                other = at[:lever] + (1 - at[lever],) + at[lever + 1:]
                if lamp_of(formula, other) != lamp:
                    self.assertIn(lever, up if at[lever] else down)

    def test_errors(self):
        for value in ANY_VALUES:
            if not same(value, ()) and not same(value, []):
                with self.assertRaises(BadList):
                    formula_cleared(LIFT, value)
        self.gives(((), ()), formula_cleared(LIFT, []))
        self.fails(BadList, -1, formula_cleared, LIFT, [(0, 0, 0, 0)] * 401)
        self.fails(BadList, 1, formula_cleared, LIFT, [(0, 0, 0, 0), (0, 0, 0)])


class FaultTest(Case):

    def test_plain_walk(self):
        rng = random.Random(6)
        faults = 0
        for formula in small_formulas(5) + [drawn_formula(rng, rng.randint(5, 40)) for _ in range(300)]:
            worth = plain_fault(formula)
            faults += worth is not None
            self.gives(worth, formula_fault(as_lists(formula)))
        self.assertGreater(faults, 100)

    def test_honest_just_if_none(self):
        """No clearing list lets any lot by just if there is no fault; then levers of the lot alone must be cleared."""
        rng = random.Random(7)
        formulas = small_formulas(4) + [drawn_formula(rng, many) for many in (5, 5, 5, 5, 6) for _ in range(12)]
        formulas += rng.sample([formula for formula in small_formulas(6) if formula_fault(formula)], 30)
        unlike = [0, 0]
        for formula in formulas:
            plain = PlainFormula(formula)
            honest = formula_fault(formula) is None
            self.assertEqual(honest, not plain.let_lots(), formula)
            unlike[honest] += 1
            if honest:
                for lot in all_lots(plain.many):
                    self.assertFalse(plain.lets_by(lot, {(lever, place) for lever, _ in lot for place in (0, 1)}))
        self.assertGreater(min(unlike), 20)

    def test_trees(self):
        """Of a tree it is the place of `tall_place`."""
        two = ("all", (("any", (0, ("all", (1, 2)))), ("any", (("all", (3, 4)), 5))))
        self.gives(("tall", (), (0, 1)), formula_fault(two))
        self.gives(None, formula_fault(("all", (("any", (0, 1)), ("any", (2, 3))))))
        self.gives(two, check_tree(check_formula(two)))

    def test_edges(self):
        self.gives((None, None, None), (formula_fault(0), formula_fault(("not", 0)), formula_fault(LIFT)))
        self.gives(("tall", (), (0, 2)), formula_fault(("all", (("choose", 0, 1, 2), 3, ("choose", 4, 5, 6)))))
        self.gives(("chooser", ()), formula_fault(("choose", ("choose", 0, 1, 2), 3, 4)))
        self.gives(None, formula_fault(("choose", ("all", (0, ("not", 1))), 2, ("choose", 3, 4, 5))))
        self.gives(("chooser", (2,)), formula_fault(("choose", 0, 1, ("choose", ("any", (("all", (2, 3)), 4)), 5, 6))))
        self.gives(None, formula_fault(("all", (("any", (0, ("not", 1))), ("any", (("not", 2), 3))))))


if __name__ == "__main__":
    unittest.main()
