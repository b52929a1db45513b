"""Points 59 and 60: polls."""

import itertools
import random
import unittest

from deadlevers.errors import BadSetting, BadTree, PaperFault, TooGreat
from deadlevers.votes import (check_poll, check_poll_paper, poll_hanging, poll_holds, poll_lamp, poll_levers, poll_list,
                              poll_paper, poll_sizes, poll_table)
from helpers import (ANY_VALUES, GREAT_TREES, Case, as_lists, chain_tree, flat_tree, has_only_tuples, knotted,
                     numbered_settings, same, settings_of, some_trees, turned)

VOTE = ("vote", 2, (0, 1, 2))
DOUBLE = ("vote", 2, (0, ("vote", 3, (1, 3, ("any", (4, 6)), ("vote", 2, (5, 7, 8)))), 2))
MIXED = ("any", (("vote", 2, (("any", (0, 1, 2)), 3, 4)), ("all", (5, ("vote", 2, (6, 7, ("all", (8, 9))))))))


def poll_leaves(poll):
    return [poll] if isinstance(poll, int) else [lever for part in poll[-1] for lever in poll_leaves(part)]


def asked_of(poll):
    return len(poll[1]) if poll[0] == "all" else 1 if poll[0] == "any" else poll[1]


def plain_lamp(poll, setting):
    if isinstance(poll, int):
        return setting[poll]
    return int(sum(plain_lamp(part, setting) for part in poll[-1]) >= asked_of(poll))


def plain_hung(poll, setting):
    own = plain_lamp(poll, setting)
    return tuple(lever for lever in range(len(setting)) if plain_lamp(poll, turned(setting, lever)) != own)


def plain_sizes(poll):
    """As the point tells it."""
    if isinstance(poll, int):
        return (1, 1)
    inner = [plain_sizes(part) for part in poll[-1]]
    asked = asked_of(poll)
    shared = (asked, len(inner) - asked + 1)
    return tuple(max(max(own[at] for own in inner), -(-sum(own[at] for own in inner) // shared[at])) for at in (0, 1))


def drawn_part(rng, levers, word=None):
    if len(levers) == 1:
        return levers[0]
    many = rng.randint(2, min(6, len(levers)))
    cuts = sorted(rng.sample(range(1, len(levers)), many - 1))
    pieces = [levers[start:end] for start, end in zip([0] + cuts, cuts + [len(levers)])]
    words = [other for other in ("all", "any") if other != word] + ["vote"] * (2 if many > 2 else 0)
    word = rng.choice(words)
    parts = tuple(sorted([drawn_part(rng, piece, word) for piece in pieces], key=lambda part: min(poll_leaves(part))))
    return ("vote", rng.randint(2, many - 1), parts) if word == "vote" else (word, parts)


def drawn_polls(seed, count, sizes):
    rng = random.Random(seed)
    polls = []
    for _ in range(count):
        levers = list(range(rng.choice(sizes)))
        rng.shuffle(levers)
        polls.append(drawn_part(rng, levers))
    return polls


SMALL_POLLS = some_trees(3) + drawn_polls(1, 60, [3, 4, 5, 6]) + [VOTE]


def knots_of(poll):
    """The parts of the knots, each ahead of what is in it."""
    if isinstance(poll, int):
        return []
    return [poll] + [knot for part in poll[-1] for knot in knots_of(part)]


def reasoned(poll, reasons, at):
    """What reasons come to at a poll; ValueError if one is no index."""
    if isinstance(poll, int):
        return 1
    own = reasons.pop(0)
    inner = [reasoned(part, reasons, at) for part in poll[-1]]
    if own is None:
        shared = asked_of(poll) if at == 0 else len(inner) - asked_of(poll) + 1
        return -(-sum(inner) // shared)
    if own >= len(inner):
        raise ValueError
    return inner[own]


class PollTest(Case):

    def test_lamps(self):
        for poll in SMALL_POLLS + drawn_polls(2, 15, [7, 8]) + [DOUBLE]:
            many = len(poll_leaves(poll))
            self.gives(poll, check_poll(as_lists(poll)))
            self.gives(many, poll_levers(as_lists(poll)))
            table = poll_table(as_lists(poll))
            self.gives(tuple(plain_lamp(poll, at) for at in numbered_settings(many)), table.lamps)
            for at in settings_of(many)[::3]:
                self.gives(plain_lamp(poll, at), poll_lamp(as_lists(poll), list(at)))
                self.gives(plain_hung(poll, at), poll_hanging(as_lists(poll), list(at)))

    def test_great_polls(self):
        for poll in drawn_polls(3, 4, [200]) + list(GREAT_TREES) + [("vote", 100, tuple(range(200)))]:
            self.gives(poll, check_poll(as_lists(poll)))
            self.gives(200, poll_levers(poll))
            self.gives((0, 1), (poll_lamp(poll, (0,) * 200), poll_lamp(poll, (1,) * 200)))
            self.fails(TooGreat, 10, poll_table, poll)
        self.fails(TooGreat, 10, poll_table, flat_tree(11))
        self.gives(tuple(plain_lamp(MIXED, at) for at in numbered_settings(10)), poll_table(MIXED).lamps)
        setting = (1,) * 100 + (0,) * 100
        self.gives(tuple(range(100)), poll_hanging(("vote", 100, tuple(range(200))), setting))
        self.gives(tuple(range(100, 200)), poll_hanging(("vote", 101, tuple(range(200))), setting))
        self.gives((), poll_hanging(("vote", 99, tuple(range(200))), setting))

    def test_bad_polls(self):
        for value in (("vote", 1, (0, 1, 2)), ("vote", 3, (0, 1, 2)), ("vote", 2, (0, 1)), ("vote", True, (0, 1, 2)),
                      ("vote", "2", (0, 1, 2)), ("vote", 2, 0), ("vote", 2), ("vote", (0, 1, 2)), ("all", 2, (0, 1, 2)),
                      ("Vote", 2, (0, 1, 2)), ("vote", 2, (0, 2, 1, -1)), ("vote", 2, (0, 2, 1)), ("vote", 2, (0, True, 2)),
                      ("all", (0, ("all", (1, 2)))), ("any", (("any", (0, 1)), 2)), ("all", (0,)), ("all", ()), ("all", (1, 0)),
                      ("vote", 2, (("any", (1, 2)), 0, 3)), ("vote", 2, (0, ("any", (2, 1)), 3)), (["vote"], 2, (0, 1, 2)),
                      ("vote", -2, (0, 1, 2)), ("vote", 2, (0, 1, None)), ("vote", 2, (0, 1, 2), 3), ("vote", None, (0, 1, 2)),
                      # The order of the parts belongs to the form, whatever the levers are.
                      ("any", (5, 4)), ("vote", 2, (7, 9, 8))):
            for call, more in POLL_CALLS:
                self.fails(BadTree, 0, call, value, *more)
                self.fails(BadTree, 0, call, as_lists(value), *more)
        for value in (1, 7, ("all", (0, 2)), ("vote", 2, (0, 1, 3)), ("vote", 2, (1, 2, 3)), ("any", (0, ("all", (1, 3)))),
                      ("vote", 2, (0, ("any", (1, 2)), ("all", (2, 3)))), ("any", (0, ("vote", 2, (1, 2, 4)))),
                      flat_tree(201), ("vote", 2, tuple(range(201))), chain_tree(201), ("all", (0, 10 ** 30))):
            for call, more in POLL_CALLS:
                self.fails(BadTree, 1, call, value, *more)
                self.fails(BadTree, 1, call, as_lists(value), *more)
        # Votes may stand in votes, but neither all in all nor any in any.
        check_poll(("vote", 2, (0, ("vote", 2, (1, 2, 3)), 4)))
        check_poll(("all", (0, ("vote", 2, (1, 2, ("all", (3, 4)))))))

    def test_any_value(self):
        for value in ANY_VALUES:
            if same(value, 0):
                self.gives(0, check_poll(value))
                continue
            with self.assertRaises(BadTree):
                check_poll(value)
            with self.assertRaises(BadTree):
                check_poll(("vote", 2, (0, 1, value if not same(value, 2) else None)))
            with self.assertRaises(BadTree):
                check_poll(("vote", value, (0, 1)))
            if not same(value, 2):
                with self.assertRaises(BadTree):
                    check_poll(("vote", value, (0, 1, 2)))
            for call in (poll_lamp, poll_hanging):
                with self.assertRaises(BadSetting):
                    call(VOTE, value if not same(value, (0, 1, 0)) else None)
        with self.assertRaises(BadTree):
            check_poll(knotted(40))
        for call in (poll_lamp, poll_hanging):
            self.fails(BadSetting, -1, call, VOTE, (0, 1))
            self.fails(BadSetting, 2, call, VOTE, [0, 1, True])


POLL_CALLS = ((check_poll, ()), (poll_levers, ()), (poll_lamp, (None,)), (poll_hanging, (None,)), (poll_table, ()),
              (poll_sizes, ()), (poll_list, ()), (poll_paper, ()), (check_poll_paper, (None,)), (poll_holds, (None,)))


class FewestTest(Case):

    def clears(self, poll, settings, place):
        cleared = set()
        for at in settings:
            self.gives(place, plain_lamp(poll, at))
            cleared |= set(plain_hung(poll, at))
        return len(cleared) == len(poll_leaves(poll))

    def test_sizes_and_lists(self):
        for poll in SMALL_POLLS + drawn_polls(4, 40, [7, 9, 12]) + [DOUBLE, MIXED]:
            sizes = poll_sizes(as_lists(poll))
            self.gives(plain_sizes(poll), sizes)
            found = poll_list(as_lists(poll))
            self.assertTrue(has_only_tuples(found))
            self.gives(sizes, tuple(map(len, found)))
            self.assertTrue(self.clears(poll, found[0], 1) and self.clears(poll, found[1], 0), (poll, found))

    def test_no_fewer(self):
        for poll in SMALL_POLLS:
            many = len(poll_leaves(poll))
            for place, size in zip((1, 0), poll_sizes(poll)):
                sets = {frozenset(plain_hung(poll, at)) for at in settings_of(many) if plain_lamp(poll, at) == place}
                sets = [own for own in sets if not any(own < other for other in sets)]
                fewer = itertools.combinations(sets, size - 1)
                self.assertFalse(any(len(frozenset().union(*chosen)) == many for chosen in fewer))

    def test_examples(self):
        self.gives((3, 2), poll_sizes(("vote", 2, (("any", (0, 1, 2)), 3, 4))))
        self.gives(((None,), (None,)), poll_paper(VOTE)[3:])
        self.gives(((1, 1), (((1,),), ((0,),))), (poll_sizes(0), poll_list(0)))
        self.gives(("poll", ((1,),), ((0,),), (), ()), poll_paper(0))
        self.gives((200, 1), poll_sizes(flat_tree(200, "any")))
        self.gives((67, 2), poll_sizes(("vote", 3, tuple(range(200)))))
        self.gives(((200, 1), (1, 200)), (poll_sizes(flat_tree(200, "any")), poll_sizes(flat_tree(200))))

    def test_great_polls(self):
        for poll in drawn_polls(5, 3, [200]) + [flat_tree(200), ("vote", 3, tuple(range(200)))]:
            paper = poll_paper(poll)
            self.gives(plain_sizes(poll), (len(paper[1]), len(paper[2])))
            self.gives(None, check_poll_paper(poll, paper))
            self.gives(True, poll_holds(poll, as_lists(paper)))


class PaperTest(Case):

    def faults(self, poll, at, value):
        """The paper is refused with this number, lists or tuples; None for no fault."""
        for told in (value, as_lists(value)):
            if at is None:
                self.gives(None, check_poll_paper(poll, told))
            else:
                self.fails(PaperFault, at, check_poll_paper, poll, told)
            self.gives(at is None, poll_holds(as_lists(poll), told))

    def test_papers(self):
        for poll in SMALL_POLLS + drawn_polls(6, 30, [7, 9]) + [DOUBLE, MIXED]:
            paper = poll_paper(as_lists(poll))
            self.assertTrue(has_only_tuples(paper))
            self.gives(("poll", 5), (paper[0], len(paper)))
            self.gives(plain_sizes(poll), (len(paper[1]), len(paper[2])))
            for at, reasons in enumerate(paper[3:]):
                self.gives(plain_sizes(poll)[at], reasoned(poll, list(reasons), at))
            self.faults(poll, None, paper)

    def test_bent_reasons(self):
        rng = random.Random(7)
        seen = set()
        for poll in drawn_polls(8, 25, [4, 5, 6, 7]) + [DOUBLE, MIXED]:
            paper = poll_paper(poll)
            count = len(knots_of(poll))
            for _ in range(30):
                kind = rng.randint(0, 1)
                reasons = [rng.choice([None, 0, 1, 2, 3]) if rng.random() < 0.4 else own for own in paper[3 + kind]]
                try:
                    worth = reasoned(poll, list(reasons), kind) == plain_sizes(poll)[kind]
                except ValueError:
                    worth = False
                seen.add(worth)
                told = paper[:3 + kind] + (tuple(reasons),) + paper[4 + kind:]
                self.gives(count, len(reasons))
                self.faults(poll, None if worth else 3 + kind, told)
        self.assertEqual(seen, {True, False})

    def test_bent_settings(self):
        rng = random.Random(9)
        for poll in drawn_polls(10, 25, [3, 4, 5, 6]) + [VOTE]:
            many = len(poll_leaves(poll))
            paper = poll_paper(poll)
            for _ in range(20):
                kind = rng.randint(0, 1)
                settings = list(paper[1 + kind])
                at = rng.randrange(len(settings))
                settings[at] = turned(settings[at], rng.randrange(many))
                lit = all(plain_lamp(poll, each) == 1 - kind for each in settings)
                worth = lit and len(set().union(*[plain_hung(poll, each) for each in settings])) == many
                told = list(paper)
                told[1 + kind] = tuple(settings)
                self.faults(poll, None if worth else 1 + kind, tuple(told))

    def test_bent_forms(self):
        paper = poll_paper(VOTE)
        ups, downs = paper[1:3]
        for at, told in ((0, paper[:4]), (0, paper + (0,)), (0, ("Poll",) + paper[1:]), (0, paper[:1] + ((0, 1),) + paper[2:]),
                         (0, ("poll", ups, downs, (), (None,))), (0, ("poll", ups, downs, (None,), (None, None))),
                         (0, ("poll", ups, downs, (None,), (-1,))), (0, ("poll", ups, downs, (True,), (None,))),
                         (0, ("poll", ups + ((1, 1),), downs, (None,), (None,))), (0, ("poll", ups, downs, None, (None,))),
                         (0, ("poll", ups * 201, downs, (None,), (None,))), (0, ("poll", ups, ups * 201, (None,), (None,))),
                         (0, ("poll", ups, downs + ((0, 0, 2),), (None,), (None,))), (0, ("poll", (), (), ("",), (None,))),
                         (1, ("poll", ups[:1], downs[:1], (9,), (9,))), (1, ("poll", (), downs, (None,), (None,))),
                         (1, ("poll", downs, ups, (None,), (None,))), (2, ("poll", ups, downs[:1], (9,), (9,))),
                         (2, ("poll", ups, downs + ups, (9,), (9,))), (3, ("poll", ups, downs, (0,), (0,))),
                         (3, ("poll", ups * 2, downs * 2, (None,), (None,))), (4, ("poll", ups, downs, (None,), (0,))),
                         (4, ("poll", ups, downs, (None,), (3,))), (4, ("poll", ups, downs * 200, (None,), (None,))),
                         (3, ("poll", ups * 200, downs, (None,), (None,))), (3, ("poll", ups, downs, (10 ** 30,), (None,)))):
            self.faults(VOTE, at, told)
        self.faults(0, None, ("poll", ((1,),), ((0,),), (), ()))
        self.faults(0, 3, ("poll", ((1,), (1,)), ((0,),), (), ()))
        # A part that wants as many as the sum, divided: either reason will do.
        flat = poll_paper(flat_tree(3))
        for up, down in itertools.product((None, 0, 1, 2), (None, 0)):
            self.faults(flat_tree(3), None if down is None else 4, flat[:3] + ((up,), (down,)))

    def test_any_value(self):
        paper = poll_paper(VOTE)
        for value in ANY_VALUES:
            self.fails(PaperFault, 0, check_poll_paper, VOTE, value)
            self.gives(False, poll_holds(VOTE, value))
            for at in range(5):
                told = list(paper)
                told[at] = value
                if at > 2 and same(value, (None,)):
                    self.gives(None, check_poll_paper(VOTE, told))
                elif at > 2 and any(same(value, kind([number])) for kind in (list, tuple) for number in (0, 1)):
                    self.fails(PaperFault, at, check_poll_paper, VOTE, told)
                elif at in (1, 2) and any(same(value, own) for own in ((), [], [(0, 1, 0)])):
                    self.fails(PaperFault, at, check_poll_paper, VOTE, told)
                else:
                    self.fails(PaperFault, 0, check_poll_paper, VOTE, told)


if __name__ == "__main__":
    unittest.main()
