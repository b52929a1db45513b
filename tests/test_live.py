"""Points 86 and 87: live trees."""

import random
import time
import unittest

from deadlevers.court import is_honest
from deadlevers.errors import BadSetting, BadTree, LeverError, NoLever, Refused, TooGreat
from deadlevers.fewlamps import least_lamps, least_looks
from deadlevers.live import Live, figures
from deadlevers.sharp import catch_number, error_number
from deadlevers.trees import check_tree
from deadlevers.updown import trial_counts
from deadlevers.wear import wear_words
from helpers import (ANY_VALUES, GREAT_TREES, Case, as_lists, chain_tree, drawn_tree, drawn_trees, flat_tree,
                     has_only_tuples, many_of, same, some_trees)
from live_helpers import (PlainLive, all_places, cut, drawn_deed, grown, knot_places, put_beside, settled, taken_out,
                          turned_knot)

TWO = ("all", (("any", (0, ("all", (1, 2)))), ("any", (("all", (3, 4)), 5))))
PAIR = ("all", (0, 1))


def shown(live):
    return (live.tree, live.log, live.ways)


class EditTest(Case):

    def edited(self, tree, name, told, worth, way):
        live = Live(as_lists(tree))
        self.gives(None, live.see((0,) * many_of(tree), 1))
        self.gives(None, getattr(live, name)(*told))
        self.gives((check_tree(worth), ((),), (way,)), shown(live))
        self.assertTrue(live.undo())
        self.gives((tree, ((((0,) * many_of(tree), 1),),), ()), shown(live))

    def test_all_edits_of_small_trees(self):
        others = [0, PAIR, ("any", (0, 1)), ("any", (0, ("all", (1, 2)))), ("all", (("any", (0, 2)), 1))]
        for tree in some_trees(3) + drawn_trees(1, 25, [4, 5, 7]) + [TWO]:
            for place in all_places(tree):
                for other in others:
                    for word in ("all", "any"):
                        worth = put_beside(tree, place, word, other)
                        self.edited(tree, "put_beside", [list(place), word, as_lists(other)], worth, "more")
                if place:
                    self.edited(tree, "take_out", [list(place)], taken_out(tree, place), "less")
            for place in knot_places(tree):
                self.edited(tree, "cut_part", [list(place)], cut(tree, place), "less")
                self.edited(tree, "turn_knot", [list(place)], turned_knot(tree, place), "other")
            for lever in range(many_of(tree)):
                for other in others:
                    self.edited(tree, "grow", [lever, as_lists(other)], grown(tree, lever, other), "more")

    def test_examples(self):
        live = Live(("any", (0, ("all", (1, 2)))))
        live.grow(1, ("any", (0, 1)))
        self.gives(("any", (0, ("all", (("any", (1, 3)), 2)))), live.tree)
        live.grow(0, ("any", (("all", (0, 2)), 1)))
        self.gives(("any", (("all", (0, 5)), ("all", (("any", (1, 3)), 2)), 4)), live.tree)
        live.take_out((1, 1))
        self.gives(("any", (("all", (0, 4)), 1, 2, 3)), live.tree)
        live.cut_part((0,))
        self.gives(("any", (0, 1, 2, 3)), live.tree)
        live.turn_knot(())
        live.put_beside((), "any", PAIR)
        self.gives(("any", (("all", (0, 1, 2, 3)), ("all", (4, 5)))), live.tree)
        live.turn_knot([1])
        self.gives(("any", (("all", (0, 1, 2, 3)), 4, 5)), live.tree)
        live.cut_part([])
        self.gives((0, ("more", "more", "less", "less", "other", "more", "other", "less")), (live.tree, live.ways))

    def test_at_the_root(self):
        live = Live(0)
        for place in ((), [0]):
            self.refuses(place, live.take_out, place)
            self.refuses(place, live.cut_part, place)
            self.refuses(place, live.turn_knot, place)
        live.put_beside([], "all", 0)
        self.gives(PAIR, live.tree)
        live.take_out([0])
        self.gives((0, ("more", "less")), (live.tree, live.ways))
        live.grow(0, as_lists(TWO))
        self.gives(TWO, live.tree)

    def test_two_hundred_levers(self):
        for tree in (chain_tree(200), flat_tree(200, "any"), GREAT_TREES[5]):
            live = Live(tree)
            self.fails(BadTree, 0, live.grow, 3, PAIR)
            self.fails(BadTree, 0, live.put_beside, (), "all", 0)
            self.gives((tree, ((),), ()), shown(live))
            live.grow(7, 0)
            self.gives((settled(tree), ("more",)), (live.tree, live.ways))
            live.take_out((0,))
            live.turn_knot(())
            self.gives(turned_knot(taken_out(tree, (0,)), ()), live.tree)
        live = Live(chain_tree(150))
        self.fails(BadTree, 0, live.grow, 3, chain_tree(52))
        live.grow(149, chain_tree(51, "any"))
        self.gives(200, many_of(live.tree))

    def test_it_holds(self):
        """Behind "less" neither up, down nor the error sets are more, an honest tree stays so; behind "more" none are less."""
        rng = random.Random(2)
        for _ in range(150):
            tree = drawn_tree(rng, rng.randint(2, 8))
            live = Live(tree)
            kind, told, behind = drawn_deed(rng, tree)
            getattr(live, kind)(*told)
            if behind and behind[1] != "other":
                less, more = (live.tree, tree) if behind[1] == "less" else (tree, live.tree)
                for one, other in zip(trial_counts(less), trial_counts(more)):
                    self.assertLessEqual(one, other)
                self.assertLessEqual(error_number(less), error_number(more))
                self.assertTrue(is_honest(less) or not is_honest(more))


class ScriptTest(Case):

    def test_scripts(self):
        for seed in range(60):
            rng = random.Random(seed)
            tree = drawn_tree(rng, rng.randint(1, 6))
            live, plain = Live(tree), PlainLive(tree)
            for _ in range(40):
                act = rng.random()
                if act < 0.2:
                    self.gives(plain.at > 0, live.undo())
                    plain.undo()
                elif act < 0.35:
                    self.gives(plain.at < len(plain.states) - 1, live.redo())
                    plain.redo()
                elif act < 0.45:
                    self.errors(live)
                elif act < 0.55:
                    self.within(rng, live)
                else:
                    kind, told, behind = drawn_deed(rng, plain.now()[0])
                    self.gives(None, getattr(live, kind)(*as_lists(told)))
                    plain.deed(kind, told, behind)
                self.gives(plain.now(), shown(live))
                self.assertTrue(has_only_tuples(shown(live)))
                if many_of(live.tree) <= 6:
                    self.gives(wear_words(live.tree, live.log), live.what_is_sure())
                else:
                    self.fails(TooGreat, 6, live.what_is_sure)

    def errors(self, live):
        many = many_of(live.tree)
        for call, told in ((live.grow, (many, 0)), (live.grow, (0, PAIR[1])), (live.put_beside, ((99,), "all", 0)),
                           (live.put_beside, ((), "none", 0)), (live.take_out, ((),)), (live.cut_part, ((99,),)),
                           (live.turn_knot, (None,)), (live.see, ((0,) * (many + 1), 0)), (live.see, ((0,) * many, 2))):
            with self.assertRaises((LeverError, NoLever)):
                call(*told)

    def within(self, rng, live):
        """Whatever is done within, also undone, or by an error, all is as before."""
        tree = live.tree

        def work(inner):
            self.assertIs(inner, live)
            for _ in range(rng.randint(0, 3)):
                kind, told, _ = drawn_deed(rng, inner.tree)
                getattr(inner, kind)(*told)
            for _ in range(rng.randint(0, 5)):
                rng.choice([inner.undo, inner.redo])()
            if rng.random() < 0.3:
                self.gives("inner", inner.within(lambda deep: deep.pause() or "inner"))
            if rng.random() < 0.4:
                raise KeyError(inner.tree)
            return (inner.tree, tree)

        before = shown(live)
        try:
            found = live.within(work)
            self.gives(tree, found[1])
        except KeyError:
            pass
        self.gives(before, shown(live))

    def test_within_keeps_what_can_be_taken_back(self):
        live = Live(TWO)
        live.pause()
        live.turn_knot(())
        live.undo()
        for work in (Live.undo, Live.pause, Live.redo, lambda inner: (inner.undo(), inner.undo(), inner.cut_part((0,)))):
            live.within(work)
            self.gives((TWO, ((), ()), ()), shown(live))
        self.gives((True, ("other",)), (live.redo(), live.ways))
        self.gives((True, True, False), (live.undo(), live.undo(), live.undo()))
        self.gives((True, True, False), (live.redo(), live.redo(), live.redo()))
        with self.assertRaises(Refused):
            live.within(lambda inner: inner.take_out(()))
        self.assertIs(live.within(lambda inner: TWO), TWO)

    def test_new_deed_forgets(self):
        live = Live(PAIR)
        live.see([1, 0], 0)
        live.undo()
        live.pause()
        self.gives((False, ((), ())), (live.redo(), live.log))
        live.undo()
        with self.assertRaises(Refused):
            live.take_out(())
        self.gives(True, live.redo())

    def test_arguments_have_no_later_effect(self):
        tree, setting, other = ["all", [0, 1]], [1, 0], ["any", [0, 1]]
        live = Live(tree)
        live.see(setting, 1)
        tree[1][0] = 7
        setting[0] = 0
        self.gives((PAIR, ((((1, 0), 1),),)), (live.tree, live.log))
        live.grow(0, other)
        other[1].append(2)
        self.gives(("all", (("any", (0, 2)), 1)), live.tree)

    def test_forty_deeds_of_forty_levers(self):
        rng = random.Random(3)
        start = time.perf_counter()
        for _ in range(5):
            tree = drawn_tree(rng, 40)
            live, plain = Live(tree), PlainLive(tree)
            for _ in range(40):
                kind, told, behind = drawn_deed(rng, plain.now()[0], 40)
                getattr(live, kind)(*told)
                plain.deed(kind, told, behind)
                self.gives(plain.now(), shown(live))
        self.assertLess(time.perf_counter() - start, 10)


class ErrorTest(Case):

    def test_new(self):
        for value in ANY_VALUES:
            if not same(value, 0):
                with self.assertRaises(BadTree):
                    Live(value)
        self.fails(BadTree, 1, Live, ("all", (1, 0)))
        self.gives((0, ((),), ()), shown(Live(0)))

    def test_any_values(self):
        live = Live(TWO)
        for value in ANY_VALUES:
            if not any(same(value, lever) for lever in (0, 1, 2)):
                self.fails(NoLever, value, live.grow, value, None)
            if not same(value, 0):
                with self.assertRaises(BadTree):
                    live.grow(0, value)
                with self.assertRaises(BadTree):
                    live.put_beside((), "all", value)
            if not any(same(value, place) for place in ((), [], (0,), [0], (1,), [1], (1, 0), (0, 1), [0, 1], (0, 0))):
                for call, more in ((live.put_beside, (None, None)), (live.take_out, ()), (live.cut_part, ()), (live.turn_knot, ())):
                    self.refuses(value, call, value, *more)
            if not same(value, "all") and not same(value, "any"):
                self.refuses(value, live.put_beside, (), value, None)
            with self.assertRaises(BadSetting):
                live.see(value, None)
            if not same(value, 0) and not same(value, 1):
                self.refuses(value, live.see, (0,) * 6, value)
            self.gives((TWO, ((),), ()), shown(live))
        for place in ((), [], (1, 1), (0, 0), [0, 1, 0]):
            if place:
                self.refuses(place, live.cut_part, place)
                self.refuses(place, live.turn_knot, place)
            else:
                self.refuses(place, live.take_out, place)
        self.gives((TWO, False, False), (live.tree, live.undo(), live.redo()))

    def test_order(self):
        live = Live(TWO)
        self.fails(NoLever, 6, live.grow, 6, None)
        self.fails(BadTree, 1, live.grow, 5, 3)
        self.fails(Refused, (5,), live.put_beside, (5,), "no", None)
        self.fails(Refused, "no", live.put_beside, (), "no", None)
        self.fails(BadSetting, 5, live.see, (0, 0, 0, 0, 0, 2), 2)


class FiguresTest(Case):

    def test_figures(self):
        for tree in some_trees(4) + [TWO] + drawn_trees(4, 20, [6, 9, 12]):
            worth = (int(is_honest(tree)),) + trial_counts(tree) + (
                catch_number(tree), error_number(tree), len(least_lamps(tree)), len(least_looks(tree)))
            self.gives(worth, figures(as_lists(tree)))
        self.gives((0, 2, 4, 4, 12, 1, 1), figures(TWO))
        self.gives((1, 1, 1, 1, 2, 0, 0), figures(0))

    def test_limits(self):
        rng = random.Random(5)
        for _ in range(10):
            tree = drawn_tree(rng, 12)
            start = time.perf_counter()
            figures(tree)
            self.assertLess(time.perf_counter() - start, 3)
        self.fails(BadTree, 0, figures, ("all", (0,)))
        self.fails(BadTree, 1, figures, ("all", (1, 0)))


if __name__ == "__main__":
    unittest.main()
