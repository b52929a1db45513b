"""Point 88: desks, live trees that are led by lines."""

import random
import time
import unittest

from deadlevers.desk import Desk
from deadlevers.errors import BadText
from deadlevers.lists import least_list
from deadlevers.live import Live, figures
from deadlevers.texts import condition_text, read_condition
from deadlevers.trees import tree_lamp
from deadlevers.wear import wear_words
from helpers import ANY_VALUES, Case, drawn_tree, many_of
from live_helpers import PlainLive, place_of, put_beside, taken_out, turned_knot
from test_fours import plain_fours

DOORS = "(a or b and c) and (d and e or f)"
NAMES = ["door", "key", "lid", "cap", "bolt", "chain", "a", "b1", "c_c", "x" * 20, "lamp", "hook", "up", "down", "rest", "see"]


class PlainDesk:
    """A copy of a desk: its states are (tree, log, ways) with names and senses beside them."""

    def __init__(self, tree, names, senses):
        self.live = PlainLive(tree)
        self.told = [(tuple(names), tuple(senses))]

    def names(self):
        return self.told[self.live.at][0]

    def senses(self):
        return self.told[self.live.at][1]

    def tree(self):
        return self.live.now()[0]

    def put(self, state, names, senses):
        self.live.put(state)
        self.told = self.told[:self.live.at] + [(names, senses)]

    def edit(self, tree, way, names, senses):
        _, _, ways = self.live.now()
        self.put((tree, ((),), ways + (way,)), names, senses)
        return self.condition()

    def condition(self):
        return condition_text(self.tree(), self.names(), self.senses())

    def true_names(self, setting):
        true = [name for name, place, sense in zip(self.names(), setting, self.senses()) if place == (sense == 1)]
        return " ".join(true) or "-"

    def see(self, lamp, true):
        tree, log, ways = self.live.now()
        setting = tuple(int((name in true) == (sense == 1)) for name, sense in zip(self.names(), self.senses()))
        self.put((tree, log[:-1] + (log[-1] + ((setting, lamp),),), ways), self.names(), self.senses())
        return "right" if tree_lamp(tree, setting) == lamp else "wrong"

    def rest(self):
        tree, log, ways = self.live.now()
        self.put((tree, log + ((),), ways), self.names(), self.senses())
        return "ok"

    def place(self, name):
        return place_of(self.tree(), self.names().index(name))

    def put_new(self, word, name, new):
        made = put_beside(self.tree(), self.place(name), {"and": "all", "or": "any"}[word], 0)
        return self.edit(made, "more", self.names() + (new,), self.senses() + (1,))

    def out(self, name):
        if many_of(self.tree()) == 1:
            return "refused"
        at = self.names().index(name)
        made = taken_out(self.tree(), self.place(name))
        return self.edit(made, "less", self.names()[:at] + self.names()[at + 1:], self.senses()[:at] + self.senses()[at + 1:])

    def turn(self, name):
        if many_of(self.tree()) == 1:
            return "refused"
        return self.edit(turned_knot(self.tree(), self.place(name)[:-1]), "other", self.names(), self.senses())

    def trials(self):
        _, ups, downs = least_list(self.tree())
        return ", ".join(map(self.true_names, ups + downs))

    def story(self):
        lots = plain_fours(self.tree())
        return ", ".join("%s %s" % (self.names()[lever], ("down", "up")[place]) for lever, place in lots[0]) if lots else "none"

    def sure(self):
        tree, log, _ = self.live.now()
        if many_of(tree) > 6:
            return "refused"
        words = wear_words(tree, log)
        if words is None:
            return "nothing fits"
        return ", ".join(name + " " + word for name, word in zip(self.names(), words[-1]))

    def figures(self):
        return " ".join(map(str, figures(self.tree())))

    def undo(self):
        found = self.live.at > 0
        self.live.undo()
        return "ok" if found else "nothing"

    def redo(self):
        found = self.live.at < len(self.live.states) - 1
        self.live.redo()
        return "ok" if found else "nothing"


def drawn_line(rng, plain):
    """(line, the answer to it), done in the copy."""
    names = plain.names()
    kind = rng.choice(["see", "see", "see", "rest", "put", "put", "out", "turn", "undo", "undo", "redo", "condition", "trials",
                       "story", "sure", "figures"])
    if kind == "see":
        lamp = rng.randint(0, 1)
        true = [name for name in names if rng.random() < 0.5]
        rng.shuffle(true)
        return ("see %d %s" % (lamp, " ".join(true) or "-"), plain.see(lamp, true))
    if kind == "put":
        new = [name for name in NAMES if name not in names]
        if len(names) > 8 or not new:
            return ("condition", plain.condition())
        word, name, new = rng.choice(["and", "or"]), rng.choice(names), rng.choice(new)
        return ("put %s %s %s" % (word, name, new), plain.put_new(word, name, new))
    if kind in ("out", "turn"):
        name = rng.choice(names)
        return (kind + " " + name, getattr(plain, kind)(name))
    return (kind, getattr(plain, kind)())


class ScriptTest(Case):

    def test_scripts(self):
        for seed in range(60):
            rng = random.Random(seed)
            tree = drawn_tree(rng, rng.randint(1, 7))
            senses = tuple(rng.choice([1, 1, -1]) for _ in range(many_of(tree)))
            text = condition_text(tree, rng.sample(NAMES, many_of(tree)), senses)
            plain, desk = PlainDesk(*read_condition(text)), Desk(text)
            for _ in range(40):
                if rng.random() < 0.2:
                    wrong = rng.choice(wrong_lines(plain.names()))
                    self.fails(BadText, 0, desk.say, wrong)
                line, worth = drawn_line(rng, plain)
                self.gives(worth, desk.say(line))
                self.gives(plain.live.now(), (desk.live.tree, desk.live.log, desk.live.ways))

    def test_example(self):
        desk = Desk(DOORS)
        lines = ("figures", "story", "out f", "figures", "see 1 a d e")
        self.gives(["0 2 4 4 12 1 1", "a down, b up, d up, f down", "(a or b and c) and d and e", "1 2 4 1 6 0 0", "right"],
                   [desk.say(line) for line in lines])

    def test_names_with_not(self):
        desk = Desk("not door and (key or not lid)")
        self.gives("wrong", desk.say("see 1 door key lid"))
        self.gives((((0, 1, 0), 1),), desk.live.log[-1])
        self.gives("right", desk.say("see 1 -"))
        self.gives((1, 0, 1), desk.live.log[-1][1][0])
        self.gives(["wrong", "right"], [desk.say("see 0 key"), desk.say("see 0 lid door")])
        # In what is sure up is 1, whatever the name says.
        other = Desk("not a")
        lines = ("trials", "see 0 -", "sure", "undo", "see 1 a", "sure", "undo", "see 1 -", "see 0 a", "sure")
        self.gives(["-, a", "wrong", "a down", "ok", "wrong", "a up", "ok", "right", "right", "a alive"],
                   [other.say(line) for line in lines])

    def test_what_is_sure(self):
        desk = Desk("a and b")
        self.gives("a open, b open", desk.say("sure"))
        for line in ("see 1 a b", "see 0 b", "see 0 a"):
            self.gives("right", desk.say(line))
        self.gives("a alive, b alive", desk.say("sure"))
        self.gives(["ok", "wrong", "a up, b open"], [desk.say(line) for line in ("rest", "see 1 b", "sure")])
        self.gives(["wrong", "nothing fits"], [desk.say(line) for line in ("see 0 a b", "sure")])

    def test_one_lever(self):
        desk = Desk("door")
        for line in ("out door", "turn door"):
            self.gives("refused", desk.say(line))
        self.gives(["door", "1 1 1 1 2 0 0", "none", "door, -", "nothing", "nothing", "door open"], [
            desk.say(line) for line in ("condition", "figures", "story", "trials", "undo", "redo", "sure")])
        self.gives(["door and lid", "lid", "ok", "door and lid", "ok", "lid"], [
            desk.say(line) for line in ("put and door lid", "out door", "undo", "condition", "redo", "condition")])
        self.fails(BadText, 0, desk.say, "out door")
        self.gives("lid or door", desk.say("put or lid door"))

    def test_refused_deeds_change_nothing(self):
        desk = Desk("a")
        desk.say("rest")
        desk.say("undo")
        self.gives("refused", desk.say("out a"))
        self.gives("ok", desk.say("redo"))
        wide = Desk(" and ".join("n%d" % at for at in range(200)))
        self.gives("refused", wide.say("put or n7 new"))
        self.gives(["refused", "nothing"], [wide.say("sure"), wide.say("undo")])

    def test_limits(self):
        """Twelve names, lines of two hundred signs, forty deeds."""
        rng = random.Random(1)
        names = [letter * 12 for letter in "abcdefghijkl"]
        for _ in range(4):
            tree = drawn_tree(rng, 12)
            text = condition_text(tree, names)
            desk, plain = Desk(text), PlainDesk(*read_condition(text))
            start = time.perf_counter()
            for _ in range(10):
                true = [name for name in names if rng.random() < 0.8]
                self.gives(plain.see(1, true), desk.say("see 1 " + (" ".join(true) or "-")))
                self.gives(plain.figures(), desk.say("figures"))
                self.gives(plain.story(), desk.say("story"))
                self.gives("refused", desk.say("sure"))
            self.assertLess(time.perf_counter() - start, 5)


def wrong_lines(names):
    some, last = names[0], names[-1]
    return ("", " ", "see", "see 1", "see 2 -", "see 1 ", "see  1 " + some, "see 1 %s " % some, " see 1 -", "see 1 %s %s" % (some, some),
            "see 1 - " + some, "see 1 nobody", "see 01 -", "see one -", "See 1 -", "rest ", "rest now", "put", "put and " + some,
            "put and %s %s" % (some, last), "put and nobody new", "put xor %s new" % some, "put and %s new more" % some,
            "put and %s and" % some, "put or %s 9a" % some, "put or %s " % some, "put or %s %s" % (some, "y" * 21), "out", "out nobody",
            "out %s %s" % (some, some), "out  " + some, "turn", "turn not", "turn nobody", "turn -", "condition now", "figures\n",
            "trials,", "stories", "sure ", "undo 1", "redo redo", "UNDO", some, "see 1 not " + some, "put all %s new" % some, "\trest",
            "see 1 %s, -" % some, "x" * 200)


class LineTest(Case):

    def test_wrong_lines(self):
        for text in (DOORS, "door", "not a or b"):
            desk = Desk(text)
            names = read_condition(text)[1]
            before = (desk.live.tree, desk.live.log, desk.live.ways)
            for line in wrong_lines(names) + ANY_VALUES:
                self.fails(BadText, 0, desk.say, line)
                self.gives(before, (desk.live.tree, desk.live.log, desk.live.ways))
            self.gives("nothing", desk.say("undo"))

    def test_texts(self):
        for value in ANY_VALUES + ("a and", "a a", "a and a", "(a", "9", "a or not", ""):
            try:
                worth = read_condition(value)
            except BadText as error:
                self.fails(BadText, error.at, Desk, value)
                continue
            self.gives(worth[0], Desk(value).live.tree)

    def test_live_is_there(self):
        desk = Desk(DOORS)
        self.assertIsInstance(desk.live, Live)
        self.gives((read_condition(DOORS)[0], ((),), ()), (desk.live.tree, desk.live.log, desk.live.ways))


if __name__ == "__main__":
    unittest.main()
