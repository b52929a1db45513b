"""Points 73 and 74: grammars, derivations, and the trees that they make."""

import random
import sys
import unittest

from deadlevers.errors import BadGrammar, Refused
from deadlevers.grammars import Grammar, check_derivation, derivation_levers, derived_tree
from deadlevers.trees import check_tree
from grammar_helpers import (ALONE, DEEP, FLAT, GRAMMARS, NONE, THREES, TWO, all_of, comb, conditions, drawn_grammars,
                             plain_levers, plain_tree)
from helpers import ANY_VALUES, Case, as_lists, chain_tree, doubled, nested, same

CALLS = (check_derivation, derivation_levers, derived_tree)
WRONG_RULES = (
    (), ("lever", ()), ("levers",), ("all",), ("all", (0,)), ("all", (0, 1, 1, 0)), ("all", (0, 2)), ("any", (0, -1)), ("any", 0),
    ("all", ("0", 1)), ("all", (True, 0)), ("some", (0, 1)), ("all", (0, 1), 0), "all", "lever", (0, (0, 1)), ("any", None),
    (("lever",),), None, ("all", "01"),
)


class GrammarTest(Case):

    def test_grammars(self):
        for grammar in GRAMMARS + tuple(drawn_grammars(1, 30, (1, 2, 3, 6), 4)):
            again = Grammar(as_lists(grammar.rules))
            self.assertTrue(again == grammar and grammar == again)
            self.gives((grammar.names, grammar.rules), (again.names, again.rules))
            self.gives(len(grammar.rules), grammar.names)
        self.gives(((("all", (1, 1)), ("lever",)), (("any", (0, 0)), ("lever",))), TWO.rules)
        self.assertFalse(TWO == FLAT)
        self.assertFalse(Grammar([[("lever",)], [("lever",)]]) == ALONE)
        for value in (TWO.rules, None, 0, ()):
            self.assertFalse(TWO == value)

    def test_arguments_have_no_later_effect(self):
        rules = [[["all", [0, 0]], ["lever"]]]
        grammar = Grammar(rules)
        rules[0][0][1][0] = 7
        rules.append([])
        self.gives((1, ((("all", (0, 0)), ("lever",)),)), (grammar.names, grammar.rules))

    def test_any_values(self):
        for value in ANY_VALUES:
            with self.assertRaises(BadGrammar) as caught:
                Grammar(value)
            at = 0 if isinstance(value, (list, tuple)) and 1 <= len(value) <= 6 else -1
            self.gives(at, caught.exception.at)
        for value in ([[["lever"]]] * 7, [], (), None, {}):
            self.fails(BadGrammar, -1, Grammar, value)

    def test_wrong_rules(self):
        good = [("lever",), ("any", [1, 0, 1])]
        for wrong in WRONG_RULES:
            self.fails(BadGrammar, 1, Grammar, [good, [("lever",), wrong]])
            self.fails(BadGrammar, 0, Grammar, [[wrong], [wrong]])
        for wrong in ([], [("lever",)] * 5, None, ("lever",), "lever", [[]]):
            self.fails(BadGrammar, 1, Grammar, [good, wrong])
            self.fails(BadGrammar, 0, Grammar, [wrong, good])
        self.gives(4, len(Grammar([[("lever",)] * 4]).rules[0]))

    def test_limits(self):
        grammar = Grammar([[("all", (0, 5, 3)), ("any", (1, 2)), ("lever",), ("all", (4, 4))]] * 6)
        self.gives((6, 4), (grammar.names, len(grammar.rules[5])))


class DerivationTest(Case):

    def test_all_small_ones(self):
        for grammar in GRAMMARS + tuple(drawn_grammars(2, 20)):
            for name in range(grammar.names):
                for levers in range(1, 6):
                    for made, tree in conditions(grammar, name, levers)[:200]:
                        self.gives(made, check_derivation(grammar, name, as_lists(made)))
                        self.gives(levers, derivation_levers(grammar, name, made))
                        self.gives(tree, derived_tree(grammar, name, as_lists(made)))
                        self.gives(tree, check_tree(tree))

    def test_one_tree_in_two_ways(self):
        found = {derived_tree(FLAT, 0, made) for made in all_of(FLAT.rules, 0, 4)}
        self.gives(5, len(all_of(FLAT.rules, 0, 4)))
        self.assertEqual(found, {("all", (0, 1, 2, 3))})

    def test_no_condition(self):
        for levers in range(1, 6):
            self.assertEqual(all_of(NONE.rules, 0, levers), ())
        for value in ANY_VALUES + ((0, ((0, ()), (0, ()))), (0, ())):
            self.fails(Refused, value, check_derivation, NONE, 0, value)

    def test_great_derivations(self):
        made = comb(200)
        self.gives(200, derivation_levers(FLAT, 0, made))
        self.gives(("all", tuple(range(200))), derived_tree(FLAT, 0, made))
        self.gives(True, same(made, check_derivation(FLAT, 0, made)))
        self.gives(True, same(made, check_derivation(FLAT, 0, as_lists(made))))
        for call in CALLS:
            wide = comb(201)
            self.refuses(wide, call, FLAT, 0, wide)
        # Knots of unlike words, one below another.
        made, words = (1, ()), 0
        for _ in range(199):
            words = 1 - words
            made = (0, ((1, ()), made))
        self.gives(chain_tree(200), derived_tree(TWO, 0, made))
        self.gives(200, derivation_levers(TWO, 0, made))
        made = (0, ())
        for _ in range(5):
            made = (0, (made, made, made))
        self.refuses(made, derivation_levers, DEEP, 0, made)
        self.gives(81, derivation_levers(DEEP, 1, made[1][0]))

    def test_wrong_derivations(self):
        good = (0, ((0, ((1, ()), (1, ()))), (1, ())))
        self.gives(("all", (("any", (0, 1)), 2)), derived_tree(TWO, 0, good))
        wrong = ((0, ()), (1, ((1, ()),)), (2, ()), (-1, ()), (True, ()), (0, ((1, ()),)), (0, ((1, ()), (1, ()), (1, ()))),
                 (0, (good, good), 0), (0,), (1, None), (1, ""), ("1", ()), (0, ((1, ()), None)), (0, ((1, ()), (0, ((1, ()), 3)))),
                 nested(tuple, 39, (1, ())), doubled(40), (None, ()))
        for value in ANY_VALUES + wrong:
            for call in CALLS:
                self.refuses(value, call, TWO, 0, value)

    def test_lists_in_themselves(self):
        value = [0, [[1, []]]]
        value[1].append(value)
        self.refuses(value, derived_tree, FLAT, 0, value)
        value = [1, []]
        value[1] += [value, value]
        self.refuses(value, derived_tree, FLAT, 0, value)

    def test_names(self):
        for value in ANY_VALUES + (2,):
            if not same(value, 0) and not same(value, 1):
                for call in CALLS:
                    self.refuses(value, call, TWO, value, None)
        self.gives(("any", (0, 1)), derived_tree(TWO, 1, [0, [[1, []], [1, []]]]))

    def test_drawn_derivations(self):
        rng = random.Random(3)
        for grammar in [TWO, THREES] + drawn_grammars(4, 20):
            for name in range(grammar.names):
                found = [made for levers in range(1, 8) for made in all_of(grammar.rules, name, levers)[:300]]
                for made in rng.sample(found, min(10, len(found))):
                    self.gives(plain_levers(made), derivation_levers(grammar, name, made))
                    self.gives(plain_tree(grammar.rules, name, made), derived_tree(grammar, name, made))


if __name__ == "__main__":
    sys.setrecursionlimit(3000)
    unittest.main()
