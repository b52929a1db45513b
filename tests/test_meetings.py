"""Points 42 to 45: where dead levers meet and hide one another."""

import itertools
import random
import unittest

from deadlevers.errors import BadLot, BadTree, Refused, TooGreat
from deadlevers.meetings import (dead_parts, hold_lot, hold_number, is_let, is_sharp, let_holds, let_list, let_paper,
                                 live_levers, meetings, sharp_list, spare_lot)
from deadlevers.sharp import sharp_lot, sharp_number
from deadlevers.trees import part_at, part_levers
from deadlevers.updown import trial_counts
from helpers import (ANY_VALUES, GREAT_TREES, Case, all_lots, as_lists, broken, chain_tree, drawn_lot, drawn_trees,
                     flat_tree, lamp, levers_of, many_of, pairs_tree, plain_cleared, plain_counts, same,
                     settings_of, some_trees, turned)
from lot_helpers import Lots

HIDE = ("all", (("any", (0, ("all", (1, 2)))), ("any", (3, ("all", (4, 5))))))
LOT = ((0, 0), (2, 1), (3, 0), (5, 1))
MIRROR = ("any", (("all", (0, ("any", (1, 2)))), ("all", (("any", (3, 4)), 5))))
LONE = ("all", (0, ("any", (1, ("all", (2, 3)))), ("any", (("all", (4, 5)), 6))))
# A part that is not held lies in a dead one, and two dead parts meet below two others.
NEST = ("all", (0, ("any", (1, ("all", (2, ("any", (3, 4)))))), ("any", (5, 6))))
WIDE = ("any", (("all", (0, ("any", (1, ("all", (2, 3)))))), ("all", (("any", (4, 5)), ("any", (6, 7))))))
SMALL_TREES = some_trees(4) + drawn_trees(1, 6, [5, 6]) + [HIDE, MIRROR]
SEARCHED = [Lots(tree) for tree in SMALL_TREES + [LONE, NEST]]


def plain_held(part, lot):
    """The value at which a part is held, by its lamp at all settings of its levers; else None."""
    levers = sorted(levers_of(part))
    found = set()
    for places in itertools.product((0, 1), repeat=len(levers)):
        setting = dict(zip(levers, places))
        setting.update({lever: place for lever, place in lot if lever in setting})
        found.add(lamp(part, setting))
    return found.pop() if len(found) == 1 else None


def plain_parts(tree, lot):
    """The dead parts as the point tells them."""
    if plain_held(tree, lot) is not None:
        return None
    found = []

    def walk(part, place):
        value = plain_held(part, lot)
        if value is not None:
            found.append((place, value))
        elif not isinstance(part, int):
            for at, inner in enumerate(part[1]):
                walk(inner, place + (at,))

    walk(tree, ())
    return tuple(sorted(found))


def parting_word(tree, one, other):
    while one[0] == other[0]:
        tree, one, other = tree[1][one[0]], one[1:], other[1:]
    return tree[0]


def plain_meetings(tree, lot):
    parts = plain_parts(tree, lot) or ()
    rows = []
    for place, value in parts:
        met = {"all": None, "any": None}
        for at in reversed(range(len(parts))):
            if parts[at][1] != value:
                met[parting_word(tree, place, parts[at][0])] = at
        rows.append((place, value, met["all"], met["any"]))
    return tuple(rows)


def renumbered(part):
    levers = sorted(levers_of(part))

    def told(inner):
        return levers.index(inner) if isinstance(inner, int) else (inner[0], tuple(map(told, inner[1])))

    return told(part)


def most_settings(tree, lot):
    """The sum of point 45."""
    parts = [(value, trial_counts(renumbered(part_at(tree, place)))) for place, value in dead_parts(tree, lot)]
    total = 2 * len(live_levers(tree, lot)) + sum(counts[1 - value] for value, counts in parts)
    for value, (_, down) in parts:
        if value == 1:
            total += sum((down + 1) * (counts[0] + 1) for other, counts in parts if other == 0)
    return total


class DeadPartsTest(Case):

    def test_plain_search(self):
        rng = random.Random(2)
        for tree in SMALL_TREES + [NEST, WIDE] + drawn_trees(3, 4, [7]):
            lots = all_lots(many_of(tree))
            for lot in lots if len(lots) < 100 else rng.sample(lots, 60):
                self.gives(plain_parts(tree, lot), dead_parts(as_lists(tree), as_lists(lot)))
                self.gives(plain_meetings(tree, lot), meetings(as_lists(tree), as_lists(lot)))
                own = {at: lamp(tree, broken(at, lot)) for at in settings_of(many_of(tree))}
                live = [lever for lever in range(many_of(tree)) if any(own[at] != own[turned(at, lever)] for at in own)]
                self.gives(tuple(live), live_levers(as_lists(tree), as_lists(lot)))

    def test_examples(self):
        self.gives((((0, 0), 0), ((0, 1, 1), 1)), dead_parts(HIDE, LOT[:2]))
        self.gives((((0, 0), 0, 3, 1), ((0, 1, 1), 1, 2, 0)), meetings(HIDE, LOT)[:2])
        self.gives((((1,), 1),), dead_parts(NEST, [(1, 1), (3, 1)]))
        self.gives((0, 5, 6), live_levers(NEST, [(1, 1), (3, 1)]))
        self.gives((None, (), ()), (dead_parts(0, [(0, 1)]), live_levers(0, [(0, 1)]), meetings(0, [(0, 0)])))
        self.gives((None, ()), (dead_parts(flat_tree(3), [(1, 0)]), meetings(flat_tree(3), [(1, 0)])))

    def test_spare_lots_and_holds(self):
        for lots in SEARCHED:
            for lot in lots.lots:
                self.gives(lots.spare[lots.box[lot]], spare_lot(as_lists(lots.tree), as_lists(lot)))
            for value in (0, 1):
                least = lots.spare[(value,) * len(lots.settings)]
                self.gives(least, hold_lot(as_lists(lots.tree), value))
                self.gives(len(least), hold_number(lots.tree, value))

    def test_great_trees(self):
        rng = random.Random(4)
        for tree in GREAT_TREES:
            lot = drawn_lot(rng, 200)
            parts = dead_parts(tree, lot)
            if parts is not None:
                dead = [lever for place, _ in parts for lever in part_levers(part_at(tree, place))]
                self.gives(tuple(sorted(set(range(200)) - set(dead))), live_levers(tree, lot))
                self.gives(parts, dead_parts(tree, spare_lot(tree, lot)))
                self.gives([row[:2] for row in meetings(tree, lot)], list(parts))
            for value in (0, 1):
                self.gives(None, dead_parts(tree, hold_lot(tree, value)))
                self.gives(hold_lot(tree, value), spare_lot(tree, hold_lot(tree, value)))
        self.gives((200, 1), (hold_number(flat_tree(200), 1), hold_number(flat_tree(200), 0)))
        self.gives(tuple((lever, 0) for lever in (0, 1)), hold_lot(pairs_tree(200), 0))

    def test_errors(self):
        calls = [(call, ()) for call in (dead_parts, live_levers, meetings, is_let, is_sharp, spare_lot, let_paper, let_list,
                                         sharp_list)] + [(let_holds, (None,))]
        for value in ANY_VALUES:
            for call, more in calls:
                if not same(value, 0):
                    with self.assertRaises(BadTree):
                        call(value, value, *more)
                with self.assertRaises(BadLot) as caught:
                    call(HIDE, as_bad_lot(value), *more)
                if not isinstance(value, (list, tuple)):
                    self.gives(-1, caught.exception.at)
            if not any(same(value, place) for place in (0, 1)):
                self.refuses(value, hold_lot, HIDE, value)
                self.refuses(value, hold_number, HIDE, value)
        for call, more in calls:
            self.fails(BadTree, 0, call, ("all", (0,)), (), *more)
            self.fails(BadTree, 1, call, ("all", (1, 0)), None, *more)
            self.fails(BadLot, -1, call, HIDE, (), *more)
            self.fails(BadLot, 1, call, HIDE, [(3, 0), (2, 0)], *more)
            self.fails(BadLot, 1, call, HIDE, [(3, 0), (6, 0)], *more)
            self.fails(BadLot, 0, call, HIDE, [(3, True)], *more)
        for call in (hold_lot, hold_number):
            self.fails(BadTree, 0, call, ("all", (0,)), None)
            self.fails(BadTree, 1, call, 1, None)


def as_bad_lot(value):
    """The value, or None if it is a lot."""
    try:
        dead_parts(HIDE, value)
    except BadLot:
        return value
    return None


class LetTest(Case):

    def test_plain_search(self):
        rng = random.Random(5)
        seen = set()
        for lots in SEARCHED:
            tree, deaths = lots.tree, list(itertools.product(range(lots.many), (0, 1)))
            let = [lot for lot in lots.lots if lots.is_let(lots.box[lot])]
            some = lots.lots if len(lots.lots) < 300 else rng.sample(lots.lots, 90) + let[:40]
            for lot in some:
                box = lots.box[lot]
                worth = lots.is_let(box)
                seen.add((worth, lots.is_sharp(box)))
                self.gives(worth, is_let(as_lists(tree), as_lists(lot)))
                paper = let_paper(as_lists(tree), as_lists(lot))
                self.gives("let" if worth else "shown", paper[0])
                self.gives(True, let_holds(tree, lot, paper))
                self.gives(True, let_holds(tree, as_lists(lot), as_lists(paper)))
                for lever, place in deaths:
                    self.gives((lever, place) not in lots.cleared[box], let_holds(tree, lot, ("shown", lever, place)))
                if not worth:
                    self.fails(Refused, lot, let_list, tree, lot)
                    continue
                settings = let_list(as_lists(tree), as_lists(lot))
                self.assertLessEqual(len(settings), 2 * lots.many)
                self.assertEqual(len(plain_cleared(tree, settings)), 2 * lots.many)
                self.gives(False, lots.shows(settings, lot))
        self.assertEqual(seen, {(False, False), (True, False), (True, True)})

    def test_all_hiders_hold(self):
        for tree, lot in ((HIDE, LOT), (MIRROR, ((0, 1), (1, 0), (3, 0), (5, 1))), (HIDE, LOT[:3] + ((4, 1),))):
            rows = plain_meetings(tree, lot)
            least = tuple(row[2] if row[1] == 1 else row[3] for row in rows)
            self.gives(("let", least), let_paper(tree, lot))
            for indexes in itertools.product(range(-1, len(rows) + 1), repeat=len(rows)):
                worth = all(0 <= other < len(rows) and rows[other][1] != row[1] and
                            parting_word(tree, row[0], rows[other][0]) == ("all" if row[1] == 1 else "any")
                            for row, other in zip(rows, indexes))
                self.gives(worth, let_holds(tree, lot, ["let", list(indexes)]))

    def test_bent_papers(self):
        for value in (("let", (3, 2, 1)), ("let", (1, 2, 3, 0, 0)), ("let", (1, 2, 3, True)), ("let", [1, None, 3, 0]),
                      ("let", (1, 2, 3, 0), 0), ("shown", 0, 1), ("let",), "let", ("led", (1, 2, 3, 0)), ("let", 1)):
            self.gives(False, let_holds(HIDE, LOT, value))
        self.gives(False, let_holds(HIDE, [(0, 1), (3, 1)], ("let", ())))
        for value in (("shown", 0, 2), ("shown", 6, 1), ("shown", 0, True), ("shown", False, 1), ("shown", 0),
                      ("shown", 0, 1, 1), ("show", 0, 1), ("shown", 0, 0), ("let", (0,)), ("let", ()), ("shown", -1, 1)):
            self.gives(False, let_holds(HIDE, LOT[:1], value))
        self.gives(True, let_holds(HIDE, LOT[:1], ["shown", 0, 1]))
        self.gives(("shown", 0, 1), let_paper(HIDE, LOT[:1]))

    def test_any_value(self):
        for value in ANY_VALUES:
            for tree, lot in ((HIDE, LOT), (HIDE, LOT[:1]), (0, ((0, 1),))):
                self.gives(False, let_holds(tree, lot, value))
                self.gives(False, let_holds(tree, lot, ("let", value)))
                self.gives(False, let_holds(tree, lot, (value, 0, 1)))
                self.gives(same(value, 0) and tree == 0, let_holds(tree, lot, ("shown", value, 0)))
            self.gives(same(value, 0), let_holds(0, ((0, 1),), ("shown", 0, value)))

    def test_great_trees(self):
        for tree in GREAT_TREES:
            number = sharp_number(tree)
            lot = sharp_lot(tree, number // 2) if number else ((7, 1), (100, 0))
            paper = let_paper(tree, lot)
            self.gives(("let" if number else "shown", True), (paper[0], let_holds(tree, lot, paper)))
            if number:
                settings = let_list(tree, lot)
                self.assertLessEqual(len(settings), 400)
                self.assertEqual(len(plain_cleared_great(tree, settings)), 400)
                self.assertTrue(all(lamp(tree, broken(at, lot)) == lamp(tree, at) for at in settings))


def plain_cleared_great(tree, settings):
    """What a list clears: down from the root, without turning each lever."""
    found = set()

    def lamps(part, setting):
        if isinstance(part, int):
            return (setting[part], ())
        inner = [lamps(own, setting) for own in part[1]]
        values = [value for value, _ in inner]
        return (min(values) if part[0] == "all" else max(values), inner)

    def walk(part, told, whole):
        if isinstance(part, int):
            found.add((part, whole))
            return
        for at, (inner, own) in enumerate(zip(part[1], told[1])):
            others = [value for beside, (value, _) in enumerate(told[1]) if beside != at]
            if all(value == (1 if part[0] == "all" else 0) for value in others):
                walk(inner, own, whole)

    for setting in settings:
        told = lamps(tree, setting)
        walk(tree, told, told[0])
    return found


class SharpListTest(Case):

    def holds(self, lots, lot):
        tree, box = lots.tree, lots.box[lot]
        settings = sharp_list(as_lists(tree), as_lists(lot))
        self.assertLessEqual(len(settings), min(400, most_settings(tree, lot)))
        let = [other for other, right in lots.right.items() if {lots.index[at] for at in settings} <= right]
        self.assertEqual(let, [box])
        self.assertEqual(len(plain_cleared(tree, settings)), 2 * lots.many)

    def test_plain_search(self):
        for lots in SEARCHED:
            for box, alike in lots.alike.items():
                worth = lots.is_sharp(box)
                for lot in alike[:2] + alike[-1:]:
                    self.gives(worth, is_sharp(as_lists(lots.tree), as_lists(lot)))
                    if worth:
                        self.holds(lots, lot)
                    else:
                        self.fails(Refused, lot, sharp_list, lots.tree, lot)

    def test_seven_levers_and_eight(self):
        found = 0
        for tree in [WIDE] + [tree for tree in drawn_trees(6, 60, [7, 7, 8]) if sharp_number(tree)][:7]:
            lots = Lots(tree)
            sharp = [alike[0] for box, alike in lots.alike.items() if is_sharp(tree, alike[0])]
            self.gives(sharp_number(tree), len(sharp))
            for lot in sharp[:4] + sharp[-4:]:
                found += 1
                self.assertTrue(lots.is_sharp(lots.box[lot]))
                self.holds(lots, lot)
        self.assertGreater(found, 30)

    def test_most(self):
        settings = sharp_list(HIDE, LOT)
        self.gives(settings, sharp_list(HIDE, LOT, most=20000))
        self.gives(settings, sharp_list(HIDE, LOT, most=len(settings)))
        for tree in (HIDE, MIRROR, LONE, WIDE):
            for number in range(sharp_number(tree)):
                lot = sharp_lot(tree, number)
                for most in (1, 5, 10, 20, 40, 60):
                    try:
                        self.assertLessEqual(len(sharp_list(tree, lot, most=most)), most)
                    except TooGreat as error:
                        self.gives(most, error.most)
                        self.assertGreater(most_settings(tree, lot), most)

    def test_great_trees(self):
        rng = random.Random(7)
        tried = 0
        for tree in GREAT_TREES + tuple(drawn_trees(8, 3, [200])):
            number = sharp_number(tree)
            if not number:
                continue
            tried += 1
            lot = sharp_lot(tree, rng.randrange(number))
            settings = sharp_list(tree, lot)
            self.assertLessEqual(len(settings), most_settings(tree, lot))
            self.assertTrue(all(lamp(tree, broken(at, lot)) == lamp(tree, at) for at in settings))
            self.assertEqual(len(plain_cleared_great(tree, settings)), 400)
            # Without one of its deaths, or with one more, another box is shown.
            for at in range(0, len(lot), 9):
                other = lot[:at] + lot[at + 1:]
                self.assertTrue(any(lamp(tree, broken(place, other)) != lamp(tree, place) for place in settings))
            for lever in live_levers(tree, lot)[::9]:
                other = tuple(sorted(lot + ((lever, 0),)))
                self.assertTrue(any(lamp(tree, broken(place, other)) != lamp(tree, place) for place in settings))
        self.assertGreater(tried, 2)

    def test_edges(self):
        for tree in (0, flat_tree(4), chain_tree(6), pairs_tree(6)):
            for lot in all_lots(many_of(tree))[::5]:
                self.gives((False, False), (is_let(tree, lot), is_sharp(tree, lot)))


if __name__ == "__main__":
    unittest.main()
