"""Points 75 and 76: shapes, and grammars all of whose conditions are honest."""

import random
import time
import unittest

from deadlevers.court import is_honest
from deadlevers.errors import BadTree, Refused
from deadlevers.grammars import Grammar, derivation_levers, derived_tree
from deadlevers.makings import (grammar_holds, grammar_paper, is_all_honest, least_levers, least_made, name_shapes,
                                tree_shape)
from grammar_helpers import (ALONE, DEEP, FLAT, GRAMMARS, NONE, TWO, all_of, comb, conditions, drawn_grammar,
                             drawn_grammars, full_grammar, plain_levers, plain_shape)
from helpers import (ANY_VALUES, GREAT_TREES, Case, as_lists, drawn_trees, has_only_tuples, levers_of, mirror_words, same,
                     some_trees)

SHAPES = ("lever", "flat all", "flat any", "knots all", "knots any", "tall all", "tall any", "wide")
MANY = GRAMMARS + tuple(drawn_grammars(1, 60))
MOST = 7


def small_shapes(grammar, name):
    """By shape the fewest levers, to a few of them."""
    found = {}
    for levers in range(1, MOST + 1):
        for _, tree in conditions(grammar, name, levers):
            found.setdefault(plain_shape(tree), levers)
    return found


class ShapeTest(Case):

    def test_trees(self):
        seen = set()
        for tree in some_trees(5) + drawn_trees(2, 200, [6, 8, 12, 30]):
            seen.add(plain_shape(tree))
            self.gives(plain_shape(tree), tree_shape(as_lists(tree)))
            self.gives(is_honest(tree), tree_shape(tree) != "wide")
        self.assertEqual(seen, set(SHAPES))
        for tree in GREAT_TREES:
            self.gives(is_honest(tree), tree_shape(tree) != "wide")

    def test_mirrors(self):
        for tree in drawn_trees(3, 60, [2, 4, 7]):
            words = tree_shape(tree).split(" ")
            other = " ".join(words[:1] + [{"all": "any", "any": "all"}[word] for word in words[1:]])
            self.gives(other, tree_shape(mirror_words(tree)))

    def test_errors(self):
        self.fails(BadTree, 0, tree_shape, ("all", (0,)))
        self.fails(BadTree, 1, tree_shape, ("all", (1, 0)))


class NameTest(Case):

    def test_plain_search(self):
        for grammar in MANY:
            for name in range(grammar.names):
                found = small_shapes(grammar, name)
                told = name_shapes(grammar, name)
                self.assertTrue(isinstance(told, tuple) and list(told) == [shape for shape in SHAPES if shape in told])
                self.assertTrue(set(found) <= set(told), (grammar.rules, name, found, told))
                self.gives(min(found.values()) if found else least_levers(grammar, name), least_levers(grammar, name))
                for shape in SHAPES:
                    made = least_made(grammar, name, shape)
                    self.gives(shape in told, made is not None)
                    if made is None:
                        continue
                    self.assertTrue(has_only_tuples(made))
                    self.gives(shape, plain_shape(derived_tree(grammar, name, made)))
                    levers = derivation_levers(grammar, name, made)
                    self.gives(found[shape] if shape in found else levers, levers)
                    self.assertTrue(levers > MOST or found[shape] == levers)
                self.gives(not told, least_levers(grammar, name) is None)

    def test_edges(self):
        self.gives(((), None), (name_shapes(NONE, 0), least_levers(NONE, 0)))
        self.gives((("lever",), 1, (0, ())), (name_shapes(ALONE, 0), least_levers(ALONE, 0), least_made(ALONE, 0, "lever")))
        self.gives(("lever", "flat all"), name_shapes(FLAT, 0))
        self.gives(("lever", "flat any", "knots any", "tall any", "wide"), name_shapes(TWO, 1))
        self.gives((243, ("wide",)), (least_levers(DEEP, 0), name_shapes(DEEP, 0)))
        self.gives(243, plain_levers(least_made(DEEP, 0, "wide")))
        self.gives(6, derivation_levers(TWO, 0, least_made(TWO, 0, "wide")))

    def test_great_conditions(self):
        """With more than two hundred levers they are returned, and cannot be passed."""
        made = least_made(DEEP, 0, "wide")
        self.refuses(made, derivation_levers, DEEP, 0, made)
        slow = Grammar([[("all", (1, 1, 1)), ("all", (0, 1))], [("any", (2, 2, 2)), ("any", (1, 2))], [("all", (3, 3, 3))],
                        [("any", (4, 4, 4)), ("any", (2, 4))], [("all", (5, 5, 5))], [("lever",), ("any", (0, 1))]])
        start = time.perf_counter()
        for name in range(6):
            for shape in SHAPES:
                made = least_made(slow, name, shape)
                self.gives(shape in name_shapes(slow, name), made is not None)
        self.assertLess(time.perf_counter() - start, 5)

    def test_any_values(self):
        for value in ANY_VALUES + (2,):
            if not same(value, 0) and not same(value, 1):
                self.refuses(value, name_shapes, TWO, value)
                self.refuses(value, least_levers, TWO, value)
                self.refuses(value, least_made, TWO, value, None)
            self.refuses(value, least_made, TWO, 0, value)
        for value in ("flat", "Lever", "all flat", "wide ", ("lever",)):
            self.refuses(value, least_made, TWO, 0, value)

    def test_full_grammars(self):
        rng = random.Random(4)
        for _ in range(10):
            grammar = full_grammar(rng, 6, 4)
            start = time.perf_counter()
            for name in range(6):
                self.gives(1, least_levers(grammar, name))
                for shape in name_shapes(grammar, name):
                    self.gives(shape, plain_shape(derived_tree(grammar, name, least_made(grammar, name, shape))))
            self.assertLess(time.perf_counter() - start, 4)


class PaperTest(Case):

    def test_papers(self):
        kinds = set()
        for grammar in MANY + (DEEP,):
            paper = grammar_paper(grammar)
            kinds.add(paper[0])
            honest = is_all_honest(grammar)
            self.gives("wide" not in name_shapes(grammar, 0), honest)
            self.assertTrue(has_only_tuples(paper))
            if honest:
                self.gives(("shapes", tuple(name_shapes(grammar, name) for name in range(grammar.names))), paper)
            else:
                self.gives("wide", paper[0])
                self.gives(plain_levers(least_made(grammar, 0, "wide")), plain_levers(paper[1]))
            self.gives(grammar is not DEEP, grammar_holds(grammar, paper))
            self.gives(grammar is not DEEP, grammar_holds(grammar, as_lists(paper)))
        self.assertEqual(kinds, {"wide", "shapes"})

    def test_honest_grammars(self):
        """All conditions of name 0, as far as they are looked at, are honest if it is told so."""
        for grammar in MANY:
            trees = [tree for levers in range(1, MOST + 1) for _, tree in conditions(grammar, 0, levers)]
            if is_all_honest(grammar):
                self.assertTrue(all(map(is_honest, trees)))
            elif plain_levers(least_made(grammar, 0, "wide")) <= MOST:
                self.assertFalse(all(map(is_honest, trees)))

    def worth(self, grammar, table):
        """Whether some told shapes are closed, from all choices of them."""
        told = [set(own) for own in table]
        trees = {}
        for tree in some_trees(3) + PICKED:
            trees.setdefault(plain_shape(tree), tree)
        if "wide" in told[0]:
            return False
        for name, rules in enumerate(grammar.rules):
            for rule in rules:
                if rule[0] == "lever":
                    if "lever" not in told[name]:
                        return False
                elif not all(shape in told[name] for shape in made_shapes(rule, told, trees)):
                    return False
        return True

    def test_bent_tables(self):
        rng = random.Random(5)
        held = [0, 0]
        for grammar in list(MANY) + [drawn_grammar(rng, 3, 2, 0.7) for _ in range(60)]:
            table = [list(name_shapes(grammar, name)) for name in range(grammar.names)]
            for _ in range(6):
                own = [list(shapes) for shapes in table]
                shapes = own[rng.randrange(len(own))]
                if shapes and rng.random() < 0.4:
                    shapes.remove(rng.choice(shapes))
                else:
                    shapes.append(rng.choice(SHAPES))
                rng.shuffle(shapes)
                worth = self.worth(grammar, own)
                held[worth] += 1
                self.gives(worth, grammar_holds(grammar, ("shapes", own)))
        self.assertGreater(min(held), 40)

    def test_more_shapes(self):
        """In any order, also again, also more than there are."""
        self.gives(True, grammar_holds(FLAT, ["shapes", [["flat all", "lever", "flat all"] + ["lever"] * 17]]))
        self.gives(False, grammar_holds(FLAT, ["shapes", [["flat all"]]]))
        self.gives(False, grammar_holds(FLAT, ["shapes", [["lever", "flat all", "wide"]]]))
        self.gives(True, grammar_holds(FLAT, ["shapes", [["lever", "flat all", "knots all"]]]))
        self.gives(False, grammar_holds(FLAT, ["shapes", [["lever", "flat all", "tall all"]]]))
        self.gives(True, grammar_holds(NONE, ("shapes", ((), ("lever",), ()))))
        self.gives(True, grammar_holds(ALONE, ("shapes", (("lever", "tall any", "knots all"),))))

    def test_other_derivations(self):
        wide = [made for levers in (6, 7, 8) for made in all_of(TWO.rules, 0, levers)]
        found = set()
        for made in wide:
            tree = derived_tree(TWO, 0, made)
            found.add(is_honest(tree))
            self.gives(not is_honest(tree), grammar_holds(TWO, ("wide", as_lists(made))))
        self.assertEqual(found, {True, False})
        self.gives(False, grammar_holds(FLAT, ("wide", comb(200))))
        self.gives(False, grammar_holds(FLAT, ("wide", comb(300))))

    def test_any_values(self):
        good = grammar_paper(FLAT)
        for value in ANY_VALUES:
            for grammar in (TWO, FLAT):
                self.gives(False, grammar_holds(grammar, value))
                for word in ("wide", "shapes", value):
                    self.gives(False, grammar_holds(grammar, (word, value)))
                self.gives(False, grammar_holds(grammar, ("shapes", (value,))))
                self.gives(False, grammar_holds(grammar, ("shapes", [["lever", "flat all", value]])))
            self.gives(False, grammar_holds(FLAT, good + (value,)))
            self.gives(False, grammar_holds(FLAT, ("shapes", good[1] + (value,))))


PICKED = [("all", (0, ("any", (1, ("all", (2, 3)))))), ("any", (0, ("all", (1, ("any", (2, 3)))))),
          ("all", (("any", (0, ("all", (1, 2)))), ("any", (3, ("all", (4, 5))))))]


def made_shapes(rule, told, trees):
    """The shapes that a rule makes of trees with told shapes."""
    combined = [()]
    for name in rule[1]:
        combined = [chosen + (shape,) for chosen in combined for shape in sorted(told[name])]
    found = set()
    for shapes in combined:
        parts, first = [], 0
        for shape in shapes:
            tree = shifted(trees[shape], first)
            first += len(levers_of(tree))
            parts += tree[1] if not isinstance(tree, int) and tree[0] == rule[0] else (tree,)
        found.add(plain_shape((rule[0], tuple(parts))))
    return found


def shifted(tree, by):
    return tree + by if isinstance(tree, int) else (tree[0], tuple(shifted(part, by) for part in tree[1]))


if __name__ == "__main__":
    unittest.main()
