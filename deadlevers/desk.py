"""A live tree that is led by lines of text."""

from deadlevers.errors import BadText, LeverError, NoLever, Refused
from deadlevers.fours import four_lot, four_number
from deadlevers.lists import least_list
from deadlevers.live import Live, figures
from deadlevers.texts import condition_text, is_name, read_condition, read_up, up_text
from deadlevers.trees import lever_place, tree_lamp

PLACE_WORDS = ("down", "up")
JOINING_WORDS = {"and": "all", "or": "any"}
PLAIN_LINES = ("rest", "condition", "figures", "trials", "story", "sure", "undo", "redo")


def parted(texts):
    """Texts behind one another, parted by a comma and a blank."""
    return ", ".join(texts) if texts else "none"


class Desk:
    """A condition whose levers have names; deeds are done by lines.

    `done` and `taken` have the names and senses where `live` has what was there ahead of its deeds.
    """

    def __init__(self, text):
        tree, names, senses = read_condition(text)
        self.live = Live(tree)
        self.names = names
        self.senses = senses
        self.done = ()
        self.taken = ()

    def say(self, line):
        """The answer to a line."""
        words = line.split(" ") if isinstance(line, str) else [""]
        if not self.is_line(words):
            raise BadText(0)
        try:
            return self.answer(words)
        except LeverError:
            return "refused"
        except NoLever:
            return "refused"

    def is_line(self, words):
        """Whether a line can have these words."""
        if len(words) == 1:
            return words[0] in PLAIN_LINES
        if words[0] == "see":
            return words[1] in ("0", "1") and self.are_true(words[2:])
        if words[0] == "put":
            return len(words) == 4 and words[1] in JOINING_WORDS and words[2] in self.names and self.is_new(words[3])
        return len(words) == 2 and words[0] in ("out", "turn") and words[1] in self.names

    def are_true(self, words):
        """Whether some words tell which names are true."""
        try:
            read_up(self.names, " ".join(words))
        except BadText:
            return False
        return True

    def is_new(self, word):
        """Whether a word is a name that is not there."""
        return is_name(word) and word not in self.names

    def answer(self, words):
        """The answer to the words of a line."""
        if words[0] == "see":
            return self.see(words[1], words[2:])
        if words[0] == "put":
            return self.put_new(words[1], words[2], words[3])
        if words[0] == "out":
            return self.take_name(words[1])
        if words[0] == "turn":
            return self.turn_above(words[1])
        if words[0] == "rest":
            self.live.pause()
            self.put_deed(self.names, self.senses)
            return "ok"
        if words[0] in ("undo", "redo"):
            return "ok" if self.go_back(words[0]) else "nothing"
        return self.plain_answer(words[0])

    def plain_answer(self, word):
        """The answer to a line that does nothing."""
        if word == "condition":
            return self.condition()
        if word == "figures":
            return " ".join([str(number) for number in figures(self.live.tree)])
        if word == "trials":
            _, ups, downs = least_list(self.live.tree)
            return parted([up_text(self.names, self.by_sense(setting)) for setting in ups + downs])
        if word == "story":
            return self.story()
        return self.sure()

    def condition(self):
        """The condition as a text."""
        return condition_text(self.live.tree, self.names, self.senses)

    def by_sense(self, setting):
        """Where levers are up by which names are true, or the other way round."""
        return [place if sense == 1 else 1 - place for place, sense in zip(setting, self.senses)]

    def story(self):
        """The first lot of four levers that some clearing list lets by."""
        if four_number(self.live.tree) == 0:
            return parted([])
        lot = four_lot(self.live.tree, 0)
        return parted([self.names[lever] + " " + PLACE_WORDS[place] for lever, place in lot])

    def sure(self):
        """What is sure of the levers in the last stretch."""
        words = self.live.what_is_sure()
        if words is None:
            return "nothing fits"
        return parted([name + " " + word for name, word in zip(self.names, words[-1])])

    def put_deed(self, names, senses):
        """Change the names where `live` did a deed."""
        self.done = self.done + ((self.names, self.senses),)
        self.taken = ()
        self.names = names
        self.senses = senses

    def see(self, lamp, words):
        """Put a trial to the last stretch; whether the lamp is as it should be."""
        setting = self.by_sense(read_up(self.names, " ".join(words)))
        seen = 1 if lamp == "1" else 0
        self.live.see(setting, seen)
        self.put_deed(self.names, self.senses)
        return "right" if tree_lamp(self.live.tree, setting) == seen else "wrong"

    def put_new(self, joining, name, new):
        """Put a new lever beside the one of a name."""
        place = lever_place(self.live.tree, self.names.index(name))
        self.live.put_beside(place, JOINING_WORDS[joining], 0)
        self.put_deed(self.names + (new,), self.senses + (1,))
        return self.condition()

    def take_name(self, name):
        """Take the lever of a name out."""
        lever = self.names.index(name)
        self.live.take_out(lever_place(self.live.tree, lever))
        self.put_deed(self.names[:lever] + self.names[lever + 1:], self.senses[:lever] + self.senses[lever + 1:])
        return self.condition()

    def turn_above(self, name):
        """Give the knot of which the lever of a name is a part the other word."""
        place = lever_place(self.live.tree, self.names.index(name))
        if not place:
            raise Refused(name)
        self.live.turn_knot(place[:-1])
        self.put_deed(self.names, self.senses)
        return self.condition()

    def go_back(self, word):
        """Take the last deed back, or do it again; whether there was one."""
        own = (self.names, self.senses)
        if word == "undo":
            if not self.live.undo():
                return False
            self.names, self.senses = self.done[-1]
            self.done = self.done[:-1]
            self.taken = self.taken + (own,)
        else:
            if not self.live.redo():
                return False
            self.names, self.senses = self.taken[-1]
            self.taken = self.taken[:-1]
            self.done = self.done + (own,)
        return True
