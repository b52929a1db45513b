"""Point 49: answers."""

import itertools
import random
import unittest

from deadlevers.errors import BadList, BadTree, Refused, TooGreat
from deadlevers.slips import answer_ways, part_answers
from deadlevers.trees import lever_place, part_at, tree_knots
from helpers import (ANY_VALUES, Case, all_lots, as_lists, broken, chain_tree, drawn_list, drawn_tree, drawn_trees,
                     flat_tree, lamp, many_of, pairs_tree, same, settings_of, some_trees)

PAIRS = pairs_tree(4)
TWO = [(1, 0, 0, 1), (0, 0, 1, 0)]
# Trees and lists at the limits of point 3.
RNG = random.Random(1)
LIMITS = [(tree, drawn_list(RNG, many, count)) for many, count in ((6, 400), (20, 5), (200, 2))
          for tree in (chain_tree(many), flat_tree(many, "any"), pairs_tree(many), drawn_tree(RNG, many))]


def states_of(many):
    """All states of the levers, told as lots, () if all are alive."""
    return [()] + all_lots(many)


def answers(part, settings, lot):
    return tuple(lamp(part, broken(setting, lot)) for setting in settings)


def drawn_questions(seed, trees):
    """Trees with some lists each, of no setting and of more, some settings twice."""
    rng = random.Random(seed)
    for tree in trees:
        for count in (0, 1, 2, 3, 6):
            settings = drawn_list(rng, many_of(tree), count)
            yield tree, settings + settings[:1] * rng.randint(0, 1)


class AnswersTest(Case):

    def test_plain_search(self):
        for tree, settings in drawn_questions(2, some_trees(3) + drawn_trees(3, 20, [4, 5])):
            states = states_of(many_of(tree))
            places = tree_knots(tree) + tuple(lever_place(tree, lever) for lever in range(many_of(tree)))
            for place in places:
                part = part_at(tree, place)
                worth = tuple(sorted({answers(part, settings, lot) for lot in states}))
                self.gives(worth, part_answers(as_lists(tree), as_lists(settings), list(place)))

    def test_ways(self):
        for tree, settings in drawn_questions(4, some_trees(3) + drawn_trees(5, 20, [4, 5])):
            found = [answers(tree, settings, lot) for lot in states_of(many_of(tree))]
            for answer in set(found) | {(0, 1, 1, 0, 1, 0)[:len(settings)] + (1,) * (len(settings) - 6)}:
                self.gives(found.count(answer), answer_ways(as_lists(tree), as_lists(settings), list(answer)))

    def test_a_knot_has_all_joined_answers_of_its_parts(self):
        for tree, settings in drawn_questions(6, drawn_trees(7, 12, [4, 5, 6])):
            for place in tree_knots(tree):
                word, parts = part_at(tree, place)
                inner = [part_answers(tree, settings, place + (at,)) for at in range(len(parts))]
                join = min if word == "all" else max
                joined = {tuple(map(join, zip(*chosen))) for chosen in itertools.product(*inner)}
                self.gives(tuple(sorted(joined)), part_answers(tree, settings, place))

    def test_examples(self):
        self.gives(((0, 0), (1, 0), (1, 1)), part_answers(PAIRS, TWO, (0,)))
        self.gives((19, 0), (answer_ways(PAIRS, TWO, (1, 0)), answer_ways(PAIRS, [(1,) * 4, (0,) * 4], [0, 1])))
        self.gives(((),), part_answers(PAIRS, (), ()))
        self.gives(81, answer_ways(PAIRS, [], []))
        self.gives(((0, 0, 0), (0, 1, 0), (1, 1, 1)), part_answers(0, [(0,), (1,), (0,)], []))
        self.gives(True, len(part_answers(flat_tree(6), settings_of(6), ())) == 2 ** 6 + 1)

    def test_limits(self):
        for tree, settings in LIMITS:
            found = part_answers(tree, settings, ())
            self.gives(True, answers(tree, settings, ()) in found)
            ways = [answer_ways(tree, settings, answer) for answer in found]
            self.assertEqual(sum(ways), 3 ** many_of(tree))
            self.assertGreater(min(ways), 0)

    def test_too_great_only_where_it_may(self):
        raised = 0
        for tree, settings in drawn_questions(8, some_trees(3) + drawn_trees(9, 10, [5])):
            whole = part_answers(tree, settings, ())
            for most in (1, 2, 3, len(whole) - 1, len(whole)):
                for call, more, worth in ((part_answers, (), whole), (answer_ways, whole[-1], None)):
                    try:
                        found = call(tree, settings, more, most=max(most, 1))
                        self.gives(found, call(tree, settings, more) if worth is None else worth)
                    except TooGreat as error:
                        raised += 1
                        self.gives(max(most, 1), error.most)
                        self.assertGreater(len(whole), max(most, 1))
        self.assertGreater(raised, 10)

    def test_errors(self):
        for value in ANY_VALUES:
            if not any(same(value, place) for place in ((), [], (0,), [0], (1,), [1], (0, 0), [0, 1], (1, 0))):
                self.refuses(value, part_answers, PAIRS, TWO, value)
            if not any(same(value, answer) for answer in ((0, 0), [0, 1], (1, 0))):
                self.refuses(value, answer_ways, PAIRS, TWO, value)
            for call in (part_answers, answer_ways):
                if not same(value, 0):
                    with self.assertRaises(BadTree):
                        call(value, None, None)
                if not (isinstance(value, (list, tuple)) and len(value) <= 400):
                    self.fails(BadList, -1, call, PAIRS, value, None)
                self.fails(BadList, 2, call, PAIRS, TWO + [value], None)
        for call in (part_answers, answer_ways):
            self.fails(BadTree, 1, call, ("all", (0, 2)), None, None)
            self.fails(BadList, -1, call, PAIRS, TWO * 201, None)
            self.fails(BadList, 0, call, PAIRS, [(0, 1, 0, 2)], None)
        # What is refused is refused ahead of what is too great.
        self.fails(Refused, (0, 2), part_answers, PAIRS, TWO, (0, 2), most=1)
        self.fails(Refused, (1,), answer_ways, PAIRS, TWO, (1,), most=1)


if __name__ == "__main__":
    unittest.main()
