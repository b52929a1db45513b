"""Parts that are two way: where dead levers in doubt err to one side, and hide what errs to the other."""

from deadlevers.walks import inner_first

WORDS = ("all", "any")


def first_place(word):
    """The place of the first lever of a pair that makes a part two way for a word."""
    return 1 if word == "all" else 0


class TwoWays:
    """What is seen from above of the parts of a tree with lamps at some rows, of deaths in doubt.

    By row: `seen` tells for both places whether a death at it is seen in the part, `two` has the
    words for which the part is two way. What has a lamp of its own is not seen at all.
    """

    def __init__(self, walk, doubts, lamps):
        self.walk = walk
        self.doubts = {death: True for death in doubts}
        self.lamps = {row: True for row in lamps}
        self.seen = [(False, False)] * len(walk.words)
        self.two = [()] * len(walk.words)
        for row in inner_first(walk):
            if row not in self.lamps:
                self.seen[row] = (self.is_seen(row, 0), self.is_seen(row, 1))
                self.two[row] = tuple([word for word in WORDS if self.is_two_way(row, word)])

    def is_seen(self, row, place):
        """Whether a death at a place is seen in a part without a lamp of its own."""
        parts = self.walk.parts[row]
        if not parts:
            return (self.walk.levers[row], place) in self.doubts
        return any([self.seen[part][place] for part in parts])

    def is_two_way(self, row, word):
        """Whether a part without a lamp of its own is two way for a word."""
        return any([word in self.two[part] for part in self.walk.parts[row]]) or self.pair_parts(row, word) is not None

    def pair_parts(self, row, word):
        """The parts of a knot that make it two way for a word by themselves: the first one, the other one; or None."""
        if self.walk.words[row] == word:
            return None
        first = first_place(word)
        for part in self.walk.parts[row]:
            if self.walk.parts[part] and self.seen[part][first]:
                for other in self.walk.parts[row]:
                    if other != part and self.seen[other][1 - first]:
                        return (part, other)
        return None

    def fault(self):
        """The first knot with two parts that are two way for its word: (row, (part, other)), or None."""
        for row, parts in enumerate(self.walk.parts):
            found = [part for part in parts if self.walk.words[row] in self.two[part]]
            if len(found) > 1:
                return (row, (found[0], found[1]))
        return None

    def seen_lever(self, row, place):
        """A lever seen in a part whose death at a place is in doubt."""
        while self.walk.parts[row]:
            row = [part for part in self.walk.parts[row] if self.seen[part][place]][0]
        return self.walk.levers[row]

    def pair_lot(self, row, word):
        """The two deaths by which a part is two way for a word."""
        found = self.pair_parts(row, word)
        while found is None:
            row = [part for part in self.walk.parts[row] if word in self.two[part]][0]
            found = self.pair_parts(row, word)
        first = first_place(word)
        return [(self.seen_lever(found[0], first), first), (self.seen_lever(found[1], 1 - first), 1 - first)]
