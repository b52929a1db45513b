"""Point 70: stories of formulas."""

import random
import unittest

from deadlevers.choose import formula_cleared, formula_fault
from deadlevers.errors import BadTree
from deadlevers.fables import formula_story, formula_story_holds
from formula_helpers import PlainFormula, count_of, deep_formula, drawn_formula, lamp_of, small_formulas
from helpers import ANY_VALUES, GREAT_TREES, Case, as_lists, broken, drawn_list, drawn_lot, has_only_tuples

TWO = ("all", (("choose", 0, 1, 2), ("any", (3, ("all", (("not", 4), 5))))))
CHOOSERS = [("choose", chooser, ("all", (6, 7)), ("choose", 8, 9, ("not", 10))) for chooser in (
    ("choose", ("any", (0, 1)), ("all", (2, 3)), ("all", (4, 5))), ("any", (0, ("all", (1, 2, 3)), ("not", 4), 5)),
    ("all", (0, ("choose", 1, ("not", 2), 3), ("any", (4, 5)))), ("any", (("choose", 0, 1, 2), ("choose", 3, 4, 5))))]


class StoryTest(Case):

    def tells(self, formula):
        """The story of a formula is one."""
        found = formula_story(as_lists(formula))
        if formula_fault(formula) is None:
            self.gives(None, found)
            return
        many = count_of(formula)
        kind, settings, lot = found
        self.assertTrue(kind == "story" and has_only_tuples(found) and len(found) == 3)
        self.assertLessEqual(len(settings), 2 * many)
        self.assertEqual([lever for lever, _ in lot], sorted({lever for lever, _ in lot}))
        self.gives((tuple(range(many)),) * 2, formula_cleared(formula, settings))
        for at in settings:
            self.assertEqual(lamp_of(formula, at), lamp_of(formula, broken(at, lot)), (formula, at, lot))
        self.assertTrue(formula_story_holds(formula, as_lists(found)))

    def test_small_formulas(self):
        for formula in small_formulas(6) + CHOOSERS + [TWO]:
            self.tells(formula)

    def test_drawn_formulas(self):
        rng = random.Random(1)
        for _ in range(300):
            self.tells(drawn_formula(rng, rng.randint(1, 14), rng.choice([0, 0.4, 1])))

    def test_great_formulas(self):
        rng = random.Random(2)
        for formula in [drawn_formula(rng, 24) for _ in range(20)] + [drawn_formula(rng, 60), deep_formula(11), deep_formula(40)]:
            self.tells(formula)
        self.gives(None, formula_story(GREAT_TREES[0]))

    def test_errors(self):
        for call, more in ((formula_story, ()), (formula_story_holds, (None,))):
            self.fails(BadTree, 0, call, ("choose", 0, 1), *more)
            self.fails(BadTree, 1, call, ("choose", 0, 1, 1), *more)


class HoldsTest(Case):

    def bent(self, rng, value, many):
        """The story with one place of its settings or its lot changed."""
        kind, settings, lot = value
        if rng.random() < 0.6:
            at = rng.randrange(len(settings))
            lever = rng.randrange(many)
            other = settings[at][:lever] + (1 - settings[at][lever],) + settings[at][lever + 1:]
            return (kind, settings[:at] + (other,) + settings[at + 1:], lot)
        at = rng.randrange(len(lot))
        return (kind, settings, lot[:at] + ((lot[at][0], 1 - lot[at][1]),) + lot[at + 1:])

    def test_bent_stories(self):
        rng = random.Random(3)
        held = [0, 0]
        formulas = [formula for formula in small_formulas(6) if formula_fault(formula)]
        for formula in rng.sample(formulas, 80) + [TWO]:
            plain = PlainFormula(formula)
            told = formula_story(formula)
            for _ in range(12):
                value = self.bent(rng, told, plain.many)
                worth = len(plain.cleared(value[1])) == 2 * plain.many and all(plain.is_right(at, value[2]) for at in value[1])
                held[worth] += 1
                self.gives(worth, formula_story_holds(formula, value))
        self.assertGreater(min(held), 20)

    def test_drawn_values(self):
        rng = random.Random(4)
        for formula in [TWO, CHOOSERS[1]] + [drawn_formula(rng, 5) for _ in range(30)]:
            plain = PlainFormula(formula)
            for _ in range(20):
                lot = drawn_lot(rng, plain.many)
                settings = [at for at in plain.settings if plain.is_right(at, lot)]
                worth = len(plain.cleared(settings)) == 2 * plain.many
                self.gives(worth, formula_story_holds(formula, ["story", settings[:400], as_lists(lot)]) if len(settings) <= 400
                           else worth)
                self.gives(False, formula_story_holds(formula, ("story", drawn_list(rng, plain.many, 2), lot)))

    def test_any_values(self):
        good = formula_story(TWO)
        for value in ANY_VALUES:
            self.gives(False, formula_story_holds(TWO, value))
            for at in range(3):
                self.gives(False, formula_story_holds(TWO, good[:at] + (value,) + good[at + 1:]))
            self.gives(False, formula_story_holds(TWO, good + (value,)))
            self.gives(False, formula_story_holds(TWO, ("story", good[1] + (value,), good[2])))
            self.gives(False, formula_story_holds(TWO, ("story", good[1], good[2] + (value,))))
        self.gives(False, formula_story_holds(TWO, ("story", good[1], ())))
        self.gives(False, formula_story_holds(0, ("story", ((0,), (1,)), ((0, 1),))))


if __name__ == "__main__":
    unittest.main()
