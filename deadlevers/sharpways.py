"""All sharp broken boxes of a tree, counted and found by number, without going through them.

A part that is not held is told by six bits: whether there are up parts and down parts in it, and
which of them still want to meet one of the other value at an ALL, or at an ANY, knot. A knot is gone
through part by part; each choice for a part is that it is dead, or the bits of its own with ALIVE.
"""

from deadlevers.holding import holding_levers, settling_value
from deadlevers.walks import inner_first

UP = 1
DOWN = 2
UP_WANTS_ALL = 4
UP_WANTS_ANY = 8
DOWN_WANTS_ALL = 16
DOWN_WANTS_ANY = 32
ALIVE = 64
# By the value of a dead part its bits: it is there, and wants to meet one at both knots.
DEAD = (50, 13)
# The whole tree with up and down parts, all of which meet whom they want to.
SHARP = 67


def still_wanting(word, one, other):
    """The bits of the first of two parts of a knot, without what it finds in the other one."""
    left = one
    if other & DOWN:
        left &= ~(UP_WANTS_ALL if word == "all" else UP_WANTS_ANY)
    if other & UP:
        left &= ~(DOWN_WANTS_ALL if word == "all" else DOWN_WANTS_ANY)
    return left


def met_bits(word, one, other):
    """The bits of two parts of a knot together."""
    return still_wanting(word, one, other) | still_wanting(word, other, one)


class SharpWays:
    """By row and bits how many ways there are, each counted as 1 shifted by `width` for each lever it takes.

    With a width of 0 these are plain numbers; with one that no number fills they tell, too, by how
    many levers. `ahead` has by row and count of parts the ways of these parts together.
    """

    def __init__(self, walk, width):
        self.walk = walk
        self.width = width
        self.levers = (holding_levers(walk, 0), holding_levers(walk, 1))
        self.ways = [{ALIVE: 1}] * len(walk.words)
        self.ahead = [[]] * len(walk.words)
        for row in inner_first(walk):
            if walk.parts[row]:
                self.ahead[row] = self.ways_ahead(row)
                self.ways[row] = {bits: many for bits, many in self.ahead[row][-1].items() if bits & ALIVE}

    def dead_value(self, row):
        """The value at which a part that is dead is held."""
        return 1 - settling_value(self.walk.words[self.walk.above[row]])

    def choices(self, row):
        """By bits the ways of a part, dead or not."""
        value = self.dead_value(row)
        made = {bits: many for bits, many in self.ways[row].items()}
        made[DEAD[value]] = 1 << (self.width * len(self.levers[value][row]))
        return made

    def ways_ahead(self, row):
        """By count of parts of a knot the ways of these together."""
        ahead = [{0: 1}]
        for part in self.walk.parts[row]:
            more = {}
            choices = self.choices(part)
            for bits, many in ahead[-1].items():
                for chosen, count in choices.items():
                    both = met_bits(self.walk.words[row], bits, chosen)
                    more[both] = more.get(both, 0) + many * count
            ahead.append(more)
        return ahead

    def total(self):
        """The ways of all sharp broken boxes."""
        return self.ways[0].get(SHARP, 0)

    def splits(self, row, at, bits):
        """How the parts of a knot up to an index come to some bits: (bits of those ahead, choice, ways of both)."""
        choices = self.choices(self.walk.parts[row][at])
        found = []
        for before in sorted(self.ahead[row][at]):
            for chosen in sorted(choices):
                if met_bits(self.walk.words[row], before, chosen) == bits:
                    found.append((before, chosen, self.ahead[row][at][before], choices[chosen]))
        return found

    def levers_taken(self, many):
        """The most levers that some of these ways take; with a width."""
        return (many.bit_length() - 1) // self.width

    def greatest_split(self, splits):
        """The first split with ways that take the most levers."""
        taken = [self.levers_taken(ahead) + self.levers_taken(many) for _, _, ahead, many in splits]
        return splits[taken.index(max(taken))]

    def picked(self, splits, number):
        """The split with a number, and the numbers there of the part and of those ahead; None: of the most levers."""
        if number is None:
            return (self.greatest_split(splits), None, None)
        for split in splits:
            if number < split[2] * split[3]:
                return (split, number // split[2], number % split[2])
            number -= split[2] * split[3]
        return None

    def dead_of(self, number):
        """The rows of the dead parts of a sharp broken box, by row the value; None: of one of the most levers."""
        found = {}
        waiting = [(0, SHARP, number)]
        while waiting:
            row, bits, left = waiting.pop()
            parts = self.walk.parts[row]
            for at in reversed(range(len(parts))):
                split, inner, left = self.picked(self.splits(row, at, bits), left)
                bits = split[0]
                if split[1] & ALIVE:
                    waiting.append((parts[at], split[1], inner))
                else:
                    found[parts[at]] = self.dead_value(parts[at])
        return found

    def knot_number(self, row, choices):
        """The bits of a knot, and the number of its way, from the choice and the number of each part."""
        bits = 0
        number = 0
        for at, (chosen, inner) in enumerate(choices):
            both = met_bits(self.walk.words[row], bits, chosen)
            number += inner * self.ahead[row][at][bits]
            for before, other, ahead, many in self.splits(row, at, both):
                if (before, other) == (bits, chosen):
                    break
                number += ahead * many
            bits = both
        return (bits, number)

    def number_of(self, held):
        """The number of the sharp broken box in which parts are held so."""
        numbers = [(ALIVE, 0)] * len(held)
        for row in inner_first(self.walk):
            if held[row] is not None:
                numbers[row] = (DEAD[held[row]], 0)
            elif self.walk.parts[row]:
                numbers[row] = self.knot_number(row, [numbers[part] for part in self.walk.parts[row]])
        return numbers[0][1]
