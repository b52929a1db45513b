"""The dead parts of a tree with a lot dead, and which of them meet where."""

from deadlevers.holding import dead_rows, held_rows
from deadlevers.pairs import words_by_pair
from deadlevers.walks import least_levers


class DeadParts:
    """A tree with a lot dead.

    `held` tells by row where the part is held, or None; `rows` are those of the dead parts in the
    order of their places, none if the whole tree is held.
    """

    def __init__(self, walk, lot):
        self.walk = walk
        self.held = held_rows(walk, lot)
        self.rows = [] if self.is_whole() else dead_rows(walk, self.held)
        self.least = least_levers(walk)
        self.words = words_by_pair(walk, walk.many)

    def is_whole(self):
        """Whether the whole tree is held."""
        return self.held[0] is not None

    def value(self, index):
        """The value at which a dead part is held."""
        return self.held[self.rows[index]]

    def does_meet(self, one, other, word):
        """Whether two dead parts have unlike values, and meet at a knot of a word."""
        if self.value(one) == self.value(other):
            return False
        return self.words[self.least[self.rows[one]]][self.least[self.rows[other]]] == word

    def met(self, index, word):
        """The least index of a dead part of the other value that one meets at a knot of a word, or None."""
        for other in range(len(self.rows)):
            if self.does_meet(index, other, word):
                return other
        return None

    def hiding_word(self, index):
        """The word of the knots at which other parts hide what a dead part does wrong."""
        return "all" if self.value(index) == 1 else "any"

    def hidden_by(self):
        """By dead part the least index of one that hides it, or None."""
        return [self.met(index, self.hiding_word(index)) for index in range(len(self.rows))]

    def is_let(self):
        """Whether some clearing list lets the lot by."""
        return not self.is_whole() and None not in self.hidden_by()

    def is_sharp(self):
        """Whether each dead part meets some of the other value both at an ALL and at an ANY knot."""
        found = [self.met(index, word) for index in range(len(self.rows)) for word in ("all", "any")]
        return not self.is_whole() and None not in found
