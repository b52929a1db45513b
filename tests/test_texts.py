"""Point 11: texts."""

import itertools
import random
import unittest

from deadlevers.errors import BadSetting, BadText, BadTree, Refused
from deadlevers.texts import condition_text, read_condition, read_up, up_text
from deadlevers.trees import check_tree
from helpers import (ANY_VALUES, GREAT_TREES, Case, as_lists, chain_tree, drawn_trees, flat_tree, levers_of, many_of,
                     settings_of, some_trees)

SIGNS = "abcdefghijklmnopqrstuvwxyz0123456789_"


def some_names(many):
    return tuple("n%d" % number for number in range(many))


def plain_text(tree, names, senses, around=None):
    if isinstance(tree, int):
        return ("" if senses[tree] == 1 else "not ") + names[tree]
    word = " and " if tree[0] == "all" else " or "
    text = word.join(plain_text(part, names, senses, tree[0]) for part in tree[1])
    return "(" + text + ")" if around == "all" else text


def bracketed(rng, tree, names, senses):
    """The text with brackets and blanks that nobody needs."""
    gap = " " * rng.randint(1, 3)
    loose = " " * rng.randint(0, 2)
    if isinstance(tree, int):
        text = ("" if senses[tree] == 1 else "not" + gap) + names[tree]
    else:
        word = gap + ("and" if tree[0] == "all" else "or") + " "
        inner = [bracketed(rng, part, names, senses) for part in tree[1]]
        text = word.join("(" + part + loose + ")" for part in inner)
    for _ in range(rng.randint(0, 2)):
        text = loose + "(" + text + loose + ")"
    return text


class ReadTest(Case):

    def test_texts_come_back(self):
        rng = random.Random(1)
        for tree in some_trees(4) + drawn_trees(1, 40, [6, 12, 30]):
            order = levers_of(tree)
            names = some_names(many_of(tree))
            senses = tuple(rng.choice((1, -1)) for _ in names)
            text = condition_text(as_lists(tree), list(names), list(senses))
            self.assertEqual(text, plain_text(tree, names, senses))
            told = (tuple(names[lever] for lever in order), tuple(senses[lever] for lever in order))
            numbers = {lever: at for at, lever in enumerate(order)}

            def renamed(part):
                return numbers[part] if isinstance(part, int) else (part[0], tuple(map(renamed, part[1])))

            worth = (check_tree(renamed(tree)),) + told
            self.gives(worth, read_condition(text))
            for _ in range(3):
                self.gives(worth, read_condition(bracketed(rng, tree, names, senses)))

    def test_and_ahead_of_or(self):
        self.gives((("any", (0, ("all", (1, 2)), 3)), ("a", "b", "c", "d"), (1, 1, 1, 1)),
                   read_condition("a or b and c or d"))
        self.gives((("all", (0, ("any", (1, 2)), 3)), ("a", "b", "c", "d"), (1, -1, 1, -1)),
                   read_condition("a and(not b or c)and not d"))

    def test_like_words_join(self):
        self.gives(("all", (0, 1, 2, 3)), read_condition("a and (b and (c)) and ((d))")[0])
        self.gives(("any", (0, 1, 2)), read_condition("(a or b) or c")[0])
        self.gives(("any", (("all", (0, 1)), ("all", (2, 3)))), read_condition("(a and b) or (c and d)")[0])

    def test_one_lever(self):
        self.gives((0, ("a",), (1,)), read_condition("a"))
        self.gives((0, ("a_9z",), (-1,)), read_condition("  ( ( not   a_9z ) )  "))
        self.gives((0, ("nota",), (1,)), read_condition("nota"))
        self.gives((0, ("android",), (1,)), read_condition("android"))

    def test_wrong_words(self):
        cases = (("", 0), ("  ", 2), ("a b", 2), ("a and", 5), ("a and ", 6), ("and", 0), ("a or or b", 5), ("(a", 2),
                 ("(a ", 3), ("a)", 1), ("()", 1), (")", 0), ("a (b)", 2), ("(a) b", 4), ("not", 3), ("not not a", 4),
                 ("not (a)", 4), ("not and", 4), ("a not b", 2), ("a and a", 6), ("a and not a", 10), ("a or (b and a)", 12),
                 ("9a", 0), ("_a", 0), ("a and 9", 6), ("A", 0), ("aB", 1), ("a-b", 1), ("a\tor b", 1), ("a\nor b", 1),
                 ("a and %", 6), ("a and \u00e9", 6), ("a\u00e9", 1), ("(a or b))", 8), ("((a or b)", 9), ("a and (", 7),
                 ("a and ()", 7), ("a or )", 5), ("x" * 21, 0), ("a and " + "x" * 21, 6), ("a,b", 1), ("a anda", 2),
                 ("a\u0661", 1), ("\u0661", 0), ("not", 3), ("(not)", 4), ("(((", 3), ("a and b c", 8), ("a\x00", 1))
        for text, at in cases:
            self.fails(BadText, at, read_condition, text)

    def test_longest(self):
        self.gives(0, read_condition("x" * 20)[0])
        names = some_names(200)
        text = " and ".join(names)
        self.gives(flat_tree(200), read_condition(text)[0])
        self.fails(BadText, len(text) + 5, read_condition, text + " and extra")
        self.fails(BadText, len(text) + 5, read_condition, text + " and extra and )")
        self.fails(BadText, len(text) + 5, read_condition, text + " and n7")
        self.fails(BadText, len(text) + 5, read_condition, text + " and extra and b or c")
        long = "a or (b)".ljust(10000)
        self.gives(("any", (0, 1)), read_condition(long)[0])
        self.fails(BadText, 0, read_condition, long + " ")
        self.gives(0, read_condition("(" * 4999 + "ab" + ")" * 4999)[0])
        self.fails(BadText, 9999, read_condition, "(" * 5000 + "a" + ")" * 4998 + "b")
        self.fails(BadText, 10000, read_condition, "(" * 10000)

    def test_deep_trees(self):
        for tree in GREAT_TREES:
            text = condition_text(tree, some_names(200))
            self.assertEqual(condition_text(*read_condition(text)), text)
        self.gives(chain_tree(200), read_condition(condition_text(chain_tree(200), some_names(200)))[0])

    def test_any_value(self):
        for value in ANY_VALUES:
            if not isinstance(value, str):
                self.fails(BadText, 0, read_condition, value)
        self.fails(BadText, 0, read_condition, b"a")


class ConditionTest(Case):

    def test_texts(self):
        tree = ("any", (("all", (0, ("any", (1, 2)))), 3))
        self.assertEqual(condition_text(tree, ["a", "b", "c", "d"]), "a and (b or c) or d")
        self.assertEqual(condition_text(tree, ["a", "b", "c", "d"], None), "a and (b or c) or d")
        self.assertEqual(condition_text(tree, ["a", "b", "c", "d"], senses=(1, -1, 1, -1)), "a and (not b or c) or not d")
        self.assertEqual(condition_text(0, ("x" * 20,), [-1]), "not " + "x" * 20)

    def test_refused_names(self):
        bad = ((), ("a",), ("a", "a"), ("a", "b", "c"), ("a", "and"), ("a", "or"), ("not", "b"), ("a", "B"), ("a", ""),
               ("a", "9"), ("a", "_b"), ("a", "b" * 21), ("a", None), ("a", 1), "ab", ["a", ["b"]], ("a", "b c"),
               ("a", "b\n"), ("a", "\u00e9"), ("a", "b-"), {"a": 1, "b": 2}.get("c"), ("a", True))
        for value in bad + ANY_VALUES:
            if value != ("all", "any"):
                self.refuses(value, condition_text, flat_tree(2), value)
                self.refuses(value, condition_text, flat_tree(2), value, 7)

    def test_refused_senses(self):
        bad = ((), (1,), (1, 1, 1), (1, 0), (1, 2), (True, 1), (1, None), "11", (1, "1"), [1, [1]])
        for value in bad + ANY_VALUES:
            if value is not None:
                self.refuses(value, condition_text, flat_tree(2), ("a", "b"), value)

    def test_tree_first(self):
        self.fails(BadTree, 0, condition_text, None, None)
        self.fails(BadTree, 1, condition_text, 1, None, 7)


class UpTest(Case):

    def test_there_and_back(self):
        for many in (1, 2, 3):
            names = ("door", "key", "lid")[:many]
            for setting in settings_of(many):
                up = [name for name, place in zip(names, setting) if place]
                self.assertEqual(up_text(list(names), list(setting)), " ".join(up) or "-")
                for order in itertools.permutations(up):
                    self.gives(setting, read_up(list(names), " ".join(order) or "-"))

    def test_limits(self):
        names = tuple(("n%d" % number).ljust(20, "x") for number in range(200))
        self.gives((1,) * 200, read_up(names, up_text(names, (1,) * 200)))
        self.gives((0,) * 200, read_up(names, "-"))
        self.fails(Refused, names + ("a",), up_text, names + ("a",), None)
        self.fails(Refused, names + ("a",), read_up, names + ("a",), None)

    def test_refused_names(self):
        bad = ((), [], ("a", "a"), ("and",), ("A",), ("a", None), "a", ("x" * 21,), ("_",), ("",))
        for value in bad + ANY_VALUES:
            if value != ["all"] and value != ("all", "any"):
                self.refuses(value, up_text, value, None)
                self.refuses(value, read_up, value, None)

    def test_wrong_settings(self):
        for value in ANY_VALUES:
            if not isinstance(value, (list, tuple)) or len(value) != 2:
                self.fails(BadSetting, -1, up_text, ("a", "b"), value)
        self.fails(BadSetting, 0, up_text, ("a", "b"), (True, 2))

    def test_wrong_words(self):
        cases = (("", 0), (" ", 0), ("a ", 1), (" a", 0), ("a  b", 1), ("a a", 1), ("a b a", 2), ("c", 0), ("a c", 1),
                 ("- a", 0), ("a -", 1), ("--", 0), ("a\tb", 0), ("A", 0), ("b a ", 2), ("- ", 0), ("a,b", 0))
        for text, at in cases:
            self.fails(BadText, at, read_up, ("a", "b"), text)
        for value in ANY_VALUES:
            if not isinstance(value, str):
                self.fails(BadText, 0, read_up, ("a", "b"), value)


if __name__ == "__main__":
    unittest.main()
