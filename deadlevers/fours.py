"""The lots of four levers that some clearing list lets by.

At a knot two of its parts have a pair each: in both a further knot with the other word, and in two
unlike parts of this one a lever each, the first one in a part that is no lever.
"""

from deadlevers.errors import Refused
from deadlevers.trees import check_lot
from deadlevers.values import is_below
from deadlevers.walks import levers_by_row, parting_row, tree_walk, way_down


class Pairs:
    """The pairs of levers in the parts of a tree: `own` by row at the knot itself, `before` in all rows ahead."""

    def __init__(self, walk):
        self.walk = walk
        self.levers = [sorted(levers) for levers in levers_by_row(walk)]
        self.own = [self.own_pairs(row) for row in range(len(walk.words))]
        self.ends = [row + 1 for row in range(len(walk.words))]
        for row in reversed(range(1, len(walk.words))):
            above = walk.above[row]
            self.ends[above] = max(self.ends[above], self.ends[row])
        self.before = {"all": [0], "any": [0]}
        for row, word in enumerate(walk.words):
            for kind in ("all", "any"):
                self.before[kind].append(self.before[kind][-1] + (self.own[row] if word == kind else 0))

    def own_pairs(self, row):
        """How many pairs part at a knot."""
        whole = len(self.levers[row])
        knots = [part for part in self.walk.parts[row] if self.walk.parts[part]]
        return sum([len(self.levers[part]) * (whole - len(self.levers[part])) for part in knots])

    def other_word(self, row):
        """The word of the knots at which pairs part in the parts of a knot."""
        return "any" if self.walk.words[row] == "all" else "all"

    def count_in(self, row, word):
        """How many pairs a part has that part at knots with a word."""
        return self.before[word][self.ends[row]] - self.before[word][row]

    def choices(self, row):
        """The (part, other part, how many lots) of a knot, in order, as far as there are lots."""
        word = self.other_word(row)
        counts = [(part, self.count_in(part, word)) for part in self.walk.parts[row]]
        full = [(part, count) for part, count in counts if count > 0]
        return [
            (part, other, count * many) for at, (part, count) in enumerate(full) for other, many in full[at + 1:]
        ]

    def total(self):
        """How many lots there are."""
        return sum([count for row in range(len(self.own)) for _, _, count in self.choices(row)])

    def pair_at(self, row, word, number):
        """The pair (first, other) of a part with a number."""
        for inner in range(row, self.ends[row]):
            if self.walk.words[inner] == word:
                if number < self.own[inner]:
                    return self.own_pair(inner, number)
                number -= self.own[inner]
        return None

    def part_pairs(self, row):
        """The (part of the first lever, part of the other one) of the pairs of a knot itself, in order."""
        parts = self.walk.parts[row]
        return [(part, other) for part in parts if self.walk.parts[part] for other in parts if other != part]

    def pair_count(self, pair):
        """How many pairs have their levers in two parts."""
        return len(self.levers[pair[0]]) * len(self.levers[pair[1]])

    def own_pair(self, row, number):
        """The pair of a knot itself with a number."""
        for pair in self.part_pairs(row):
            if number < self.pair_count(pair):
                first, other = self.levers[pair[0]], self.levers[pair[1]]
                return (first[number // len(other)], other[number % len(other)])
            number -= self.pair_count(pair)
        return None

    def step_to(self, row, lever):
        """The part of a knot in which a lever is."""
        return [part for part in self.walk.parts[row] if lever in self.levers[part]][0]

    def pair_number(self, row, word, first, other):
        """The number of a pair of a part, None if it is none."""
        knot = parting_row(self.walk, first, other)
        if self.walk.words[knot] != word or not row <= knot < self.ends[row]:
            return None
        found = (self.step_to(knot, first), self.step_to(knot, other))
        if not self.walk.parts[found[0]]:
            return None
        number = self.before[word][knot] - self.before[word][row]
        for pair in self.part_pairs(knot):
            if pair == found:
                break
            number += self.pair_count(pair)
        behind = self.levers[found[1]]
        return number + self.levers[found[0]].index(first) * len(behind) + behind.index(other)


def four_number(tree):
    """How many lots of four levers some clearing list lets by."""
    return Pairs(tree_walk(tree)).total()


def four_of(pairs, number):
    """The lot with what is a number."""
    for row in range(len(pairs.own)):
        for part, other, count in pairs.choices(row):
            if number < count:
                word = pairs.other_word(row)
                many = pairs.count_in(other, word)
                found = (pairs.pair_at(part, word, number // many), pairs.pair_at(other, word, number % many))
                place = 1 if word == "any" else 0
                return tuple(sorted([(pair[at], place if at == 0 else 1 - place) for pair in found for at in (0, 1)]))
            number -= count
    return None


def four_lot(tree, number):
    """The lot of a number."""
    pairs = Pairs(tree_walk(tree))
    if not is_below(number, pairs.total()):
        raise Refused(number)
    return four_of(pairs, number)


def common_row(walk, levers):
    """The row of the knot at which the ways of some levers do not all go on together."""
    ways = [way_down(walk, walk.rows[lever]) for lever in levers]
    row = 0
    for steps in zip(ways[0], ways[1], ways[2], ways[3]):
        if len(set(steps)) > 1:
            return row
        row = steps[0]
    return row


def split_lot(pairs, row, lot):
    """The two parts of a knot that have two levers each, one of them first: (part, first, other), or None."""
    place = 1 if pairs.walk.words[row] == "all" else 0
    found = []
    for part in pairs.walk.parts[row]:
        first = [lever for lever, stuck in lot if stuck == place and lever in pairs.levers[part]]
        other = [lever for lever, stuck in lot if stuck != place and lever in pairs.levers[part]]
        if (len(first), len(other)) == (1, 1):
            found.append((part, first[0], other[0]))
    return found if len(found) == 2 else None


def place_of(pairs, lot):
    """The number of what is a lot of four levers, None if it is none of these."""
    row = common_row(pairs.walk, [lever for lever, _ in lot])
    found = split_lot(pairs, row, lot)
    if found is None:
        return None
    word = pairs.other_word(row)
    numbers = [pairs.pair_number(part, word, first, other) for part, first, other in found]
    if None in numbers:
        return None
    parts = (found[0][0], found[1][0])
    number = sum([count for ahead in range(row) for _, _, count in pairs.choices(ahead)])
    for part, other, count in pairs.choices(row):
        if (part, other) == parts:
            break
        number += count
    return number + numbers[0] * pairs.count_in(parts[1], word) + numbers[1]


def four_place(tree, lot):
    """The number of a lot, None if it is none of these."""
    walk = tree_walk(tree)
    dead = check_lot(lot, walk.many)
    if len(dead) != 4:
        return None
    return place_of(Pairs(walk), dead)
