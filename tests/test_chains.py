"""Points 40, the second half, and 41: boxes that trials leave, and chains."""

import random
import unittest

import deadlevers.shown
from deadlevers.chains import boxes_left, is_chain, shape_story, story_holds
from deadlevers.errors import BadList, BadTree, Refused, TooGreat
from deadlevers.shapes import all_boxes, box_number, own_fault, plain_fault
from helpers import (ANY_VALUES, GREAT_TREES, Case, as_lists, chain_tree, drawn_list, drawn_setting, drawn_trees,
                     flat_tree, lamp, many_of, other_word, pairs_tree, plain_cleared, same,
                     settings_of, some_trees)
from shape_helpers import ALL_KINDS, all_faults, drawn_fault, plain_lamp, plain_lamps, shape_lamp, shape_lamps

PAIRS = pairs_tree(4)
FIVE = ("any", (("all", (0, 1)), 2, 3, 4, 5))
LOW = ("any", (0, ("all", (1, 2, ("any", (3, ("all", (4, 5)), 6, ("all", (7, ("any", (8, 9)))), ("all", (10, 11))))))))


def groups(word, sizes):
    """A knot of flat knots and levers."""
    parts, first = [], 0
    for size in sizes:
        parts.append((other_word(word), tuple(range(first, first + size))) if size > 1 else first)
        first += size
    return (word, tuple(parts))


def plain_is_chain(tree):
    if isinstance(tree, int):
        return True
    knots = [part for part in tree[1] if not isinstance(part, int)]
    return len(knots) < 2 and all(map(plain_is_chain, knots))


def rule_changes(tree, fault):
    """How many knots have another rule than their own, told as a number."""
    if isinstance(tree, int):
        return 0
    own = len(tree[1]) if tree[0] == "all" else 1
    other = 1 if tree[0] == "all" else len(tree[1])
    assert fault[0] in (own, other)
    return int(fault[0] != own) + sum(rule_changes(part, inner) for part, inner in zip(tree[1], fault[1]))


def has_turned(fault):
    return fault == "turned" or isinstance(fault, tuple) and any(map(has_turned, fault[1]))


def plain_story_holds(tree, settings, fault):
    if len(plain_cleared(tree, settings)) < 2 * many_of(tree):
        return False
    if any(shape_lamp(tree, fault, at) != lamp(tree, at) for at in settings):
        return False
    return shape_lamps(tree, fault) != tuple(lamp(tree, at) for at in settings_of(many_of(tree)))


class ChainTest(Case):

    def test_chains(self):
        for tree in some_trees(4) + drawn_trees(1, 60, [5, 6, 9, 14]) + [FIVE, LOW, PAIRS, chain_tree(9), flat_tree(7)]:
            self.gives(plain_is_chain(tree), is_chain(as_lists(tree)))
        for tree in GREAT_TREES:
            self.gives(plain_is_chain(tree), is_chain(tree))
        self.gives((True, False), (is_chain(0), is_chain(PAIRS)))

    def test_a_clearing_list_tells_a_chain(self):
        """At the settings at which another box is right not all levers are cleared, just in chains."""
        for tree in some_trees(4) + [chain_tree(5), flat_tree(5)] + drawn_trees(2, 3, [5]):
            settings = settings_of(many_of(tree))
            own = tuple(lamp(tree, at) for at in settings)
            cleared = [plain_cleared(tree, [at]) for at in settings]
            kinds = (True, "rising") if many_of(tree) < 5 else (True, "exchanged")
            let = False
            for box in {plain_lamps(tree, fault) for fault in all_boxes(tree, kinds, most=20000)} - {own}:
                right = [found for one, other, found in zip(own, box, cleared) if one == other]
                let = let or len(set().union(*right)) == 2 * many_of(tree)
            self.gives(not let, is_chain(tree))

    def test_errors(self):
        for call, more in ((is_chain, ()), (shape_story, ()), (story_holds, (None,))):
            self.fails(BadTree, 0, call, ("all", (0,)), *more)
            self.fails(BadTree, 1, call, ("all", (0, 0)), *more)


class StoryTest(Case):

    def holds(self, tree):
        story = shape_story(as_lists(tree))
        self.gives(plain_is_chain(tree), story is None)
        if story is None:
            return
        self.assertTrue(isinstance(story, tuple) and len(story) == 2)
        settings, fault = story
        self.assertLessEqual(len(settings), 2 * many_of(tree))
        self.gives((1, False), (rule_changes(tree, fault), has_turned(fault)))
        self.gives(True, story_holds(tree, story))
        self.gives(True, story_holds(as_lists(tree), as_lists(story)))
        if many_of(tree) < 10:
            self.assertTrue(plain_story_holds(tree, settings, fault))

    def test_stories(self):
        for tree in some_trees(4) + drawn_trees(3, 80, [5, 6, 7, 9]) + [FIVE, LOW, PAIRS, pairs_tree(6, "any")]:
            self.holds(tree)
        for tree in GREAT_TREES:
            self.holds(tree)

    def test_other_values(self):
        rng = random.Random(4)
        holding = 0
        for tree in (PAIRS, ("any", (0, ("all", (1, 2)))), flat_tree(3), FIVE):
            good = shape_story(tree)
            for _ in range(400):
                settings = list(good[0]) if good and rng.random() < 0.6 else drawn_list(rng, many_of(tree), rng.randint(0, 9))
                if rng.random() < 0.5:
                    settings = settings + [drawn_setting(rng, many_of(tree))]
                fault = good[1] if good and rng.random() < 0.6 else drawn_fault(rng, tree)
                worth = plain_story_holds(tree, settings, fault)
                holding += worth
                self.gives(worth, story_holds(tree, [settings, as_lists(fault)]))
        self.assertGreater(holding, 50)

    def test_tables_and_other_faults_hold(self):
        """All faults that are let by at the settings at which the one of the story is right."""
        settings, fault = shape_story(PAIRS)
        right = [at for at in settings_of(4) if shape_lamp(PAIRS, fault, at) == lamp(PAIRS, at)]
        holding = 0
        for other in all_faults(PAIRS, (False, "exchanged")) + random.Random(14).sample(all_faults(PAIRS, (False, "rising")), 999):
            worth = plain_story_holds(PAIRS, right, other)
            holding += worth
            self.gives(worth, story_holds(PAIRS, (right, other)))
        self.assertGreater(holding, 1)
        self.gives(False, story_holds(PAIRS, (settings_of(4), own_fault(PAIRS))))

    def test_bent_stories(self):
        settings, fault = shape_story(PAIRS)
        for value in ((settings,), (settings, fault, 0), (fault, settings), (settings, own_fault(PAIRS)), ((), fault),
                      (settings[1:], fault), (settings + ((0, 0, 0),), fault), (settings + ((0, 0, 0, True),), fault),
                      (settings * 60, fault), (settings, fault[:1]), (settings, (True, fault[1])), [settings]):
            self.gives(False, story_holds(PAIRS, value))
        self.gives(True, story_holds(PAIRS, (settings * 40, fault)))

    def test_any_value(self):
        settings, fault = shape_story(PAIRS)
        for value in ANY_VALUES:
            for tree in (PAIRS, 0, flat_tree(2)):
                self.gives(False, story_holds(tree, value))
                self.gives(False, story_holds(tree, (value, value)))
            self.gives(False, story_holds(PAIRS, (value, fault)))
            self.gives(False, story_holds(PAIRS, (settings, value)))


class BoxesLeftTest(Case):

    def holds(self, tree, kinds, boxes, trials, most=2000):
        fitting = [box for box in boxes if all(plain_lamp(tree, box, at) == seen for at, seen in trials)]
        found = boxes_left(as_lists(tree), as_lists(trials), list(kinds), most=most)
        self.gives(len(fitting), found[0])
        if fitting:
            self.assertTrue(any(same(found[1], box) for box in fitting), (tree, kinds, trials, found))
        else:
            self.gives(None, found[1])

    def drawn_trials(self, rng, tree, boxes):
        box = rng.choice(boxes)
        trials = [(at, plain_lamp(tree, box, at)) for at in drawn_list(rng, many_of(tree), rng.choice([0, 1, 2, 3, 6, 10]))]
        if trials and rng.random() < 0.3:
            trials.append(trials[0])
        if trials and rng.random() < 0.3:
            trials[-1] = (trials[-1][0], 1 - trials[-1][1])
        return trials

    def test_plain_search(self):
        rng = random.Random(5)
        for tree in some_trees(3) + drawn_trees(6, 16, [4, 5]) + drawn_trees(7, 6, [7, 8]) + [FIVE, PAIRS, flat_tree(4)]:
            for kinds in ALL_KINDS:
                if kinds[1] == "rising" and tree == FIVE or box_number(tree, kinds) > 5000:
                    continue
                boxes = all_boxes(tree, kinds, most=5000)
                for _ in range(3):
                    self.holds(tree, kinds, boxes, self.drawn_trials(rng, tree, boxes))

    def test_great_parts_of_small_trees(self):
        """The way in which great trees are gone through answers for small ones, too."""
        rng = random.Random(8)
        deadlevers.shown.SMALL_PART, kept = 1, deadlevers.shown.SMALL_PART
        try:
            for tree in drawn_trees(9, 16, [4, 5]) + drawn_trees(10, 5, [7]) + [FIVE, PAIRS, chain_tree(6)]:
                for kinds in ALL_KINDS:
                    if kinds[1] == "rising" and tree == FIVE or box_number(tree, kinds) > 3000:
                        continue
                    boxes = all_boxes(tree, kinds, most=3000)
                    for _ in range(3):
                        self.holds(tree, kinds, boxes, self.drawn_trials(rng, tree, boxes))
        finally:
            deadlevers.shown.SMALL_PART = kept

    def test_no_trials(self):
        for tree in some_trees(3) + [FIVE, LOW, chain_tree(12), groups("all", [3, 3, 3, 3])]:
            for kinds in ALL_KINDS[:2] + ALL_KINDS[3:5]:
                self.gives(box_number(tree, kinds), boxes_left(tree, (), kinds, most=1)[0])
        tree = groups("all", [3, 3, 3, 3])
        self.gives(box_number(tree, (True, "rising")), boxes_left(tree, [], (True, "rising"), most=1)[0])

    def test_all_trials(self):
        for tree in (0, PAIRS, chain_tree(4)):
            trials = [(at, lamp(tree, at)) for at in settings_of(many_of(tree))]
            self.gives((1, plain_fault(tree, own_fault(tree))), boxes_left(tree, trials, (True, "rising"), most=2000))
            for lit in (0, 1):
                trials = [(at, lit) for at in settings_of(many_of(tree))]
                self.gives((1, lit), boxes_left(tree, trials, (True, "rising"), most=2000))
            self.gives((0, None), boxes_left(tree, [(trials[0][0], 0), (trials[0][0], 1)], (False, "own"), most=1))

    def test_too_great_only_where_it_may(self):
        """It is raised only if the boxes of some part have more unlike rows of lamps."""
        rng = random.Random(11)
        raised = 0
        for tree in drawn_trees(12, 12, [4, 5]) + [PAIRS, FIVE]:
            for kinds in ALL_KINDS[:2] + ALL_KINDS[3:5]:
                boxes = all_boxes(tree, kinds, most=20000)
                trials = [(at, lamp(tree, at)) for at in drawn_list(rng, many_of(tree), 6)]
                # All rows of a part are rows of the whole tree: those boxes that hang on the part alone.
                rows = {tuple(plain_lamp(tree, box, at) for at, _ in trials) for box in boxes}
                for most in (1, 4, 9, 20, len(rows)):
                    try:
                        self.holds(tree, kinds, boxes, trials, most)
                    except TooGreat as error:
                        raised += 1
                        self.gives(most, error.most)
                        self.assertLess(most, len(rows))
        self.assertGreater(raised, 0)

    def test_limits(self):
        """Twelve levers, forty trials, knots of six parts: answered, or too great where it may be."""
        rng = random.Random(13)
        answered = 0
        for tree in (groups("all", [2] * 6), groups("any", [6, 6]), chain_tree(12), groups("all", [1, 2, 2, 2, 2, 3]), LOW,
                     groups("any", [3, 3, 3, 3])):
            own = own_fault(tree)
            for kinds in ALL_KINDS:
                if kinds[1] == "rising" and any(len(part) > 4 for part in knots_of(tree)):
                    continue
                for count in (6, 9, 40):
                    trials = [(at, lamp(tree, at)) for at in drawn_list(rng, 12, count)]
                    try:
                        number, fault = boxes_left(tree, trials, kinds, most=2000)
                    except TooGreat:
                        self.assertGreater(count, 10)
                        continue
                    answered += 1
                    self.assertGreater(number, 0)
                    self.assertTrue(all(plain_lamp(tree, fault, at) == seen for at, seen in trials))
                    self.assertTrue(all(shape_lamp(tree, own, at) == seen for at, seen in trials))
        self.assertGreater(answered, 40)

    def test_errors(self):
        trial = ((0, 1, 0, 1), 1)
        call = left_of_most_one
        self.fails(BadTree, 0, call, ("all", (0,)), None, None)
        self.fails(BadTree, 1, call, ("all", (0, 2)), None, None)
        for value in ANY_VALUES:
            if isinstance(value, (list, tuple)) and len(value) <= 400:
                if len(value) > 0:
                    self.fails(BadList, 0, call, PAIRS, value, None)
                self.fails(BadList, 2, call, PAIRS, [trial, trial, value, 0], None)
            else:
                self.fails(BadList, -1, call, PAIRS, value, None)
            is_lamp = same(value, 0) or same(value, 1)
            self.fails(BadList, 2 if is_lamp else 1, call, PAIRS, [trial, (trial[0], value), 0], None)
            self.fails(BadList, 0, call, PAIRS, ((value, 0),), None)
            with self.assertRaises(Refused) as caught:
                call(PAIRS, [trial], value)
            self.assertIs(caught.exception.at, value)
        self.fails(BadList, -1, call, PAIRS, [trial] * 401, None)
        self.fails(BadList, 3, call, PAIRS, [trial] * 3 + [trial + (0,)], None)
        self.fails(BadList, 0, call, PAIRS, [((0, 1, 0), 1), None], None)
        for kinds in ((False, "rising"), (True, "rising")):
            self.fails(Refused, kinds, call, FIVE, [], kinds)
        trials = [[[1, 0, 1, 0], 0], [[0, 1, 1, 0], 1]] * 200
        self.gives(3, boxes_left(PAIRS, trials, (False, "own"), most=100)[0])


def left_of_most_one(tree, trials, kinds):
    return boxes_left(tree, trials, kinds, most=1)


def knots_of(tree):
    """The parts of all knots."""
    if isinstance(tree, int):
        return []
    return [tree[1]] + [found for part in tree[1] for found in knots_of(part)]


if __name__ == "__main__":
    unittest.main()
