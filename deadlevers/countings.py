"""How many derivations there are, by number of levers and by shape; their numbers, and their trials."""

from deadlevers.errors import Refused
from deadlevers.grammars import check_name, derivation_walk, rule_names
from deadlevers.makings import SHAPES, level_shape, part_level
from deadlevers.sizes import check_levers
from deadlevers.values import is_below, is_number

MOST_COUNTED = 30
MOST_PAIRED = 12


class DerivationCounts:
    """By name and number of levers how many derivations there are; `pairs` has those of two names together."""

    def __init__(self, grammar, most):
        self.rules = grammar.rules
        self.totals = [[0] * (most + 1) for _ in range(grammar.names)]
        tails = [rule_names(rule)[-2:] for own in grammar.rules for rule in own if rule_names(rule)]
        self.pairs = {tail: [0] * (most + 1) for tail in tails}
        for levers in range(1, most + 1):
            for tail in list(self.pairs):
                self.pairs[tail][levers] = self.both_ways(self.totals[tail[0]], self.totals[tail[1]], levers)
            for name, own in enumerate(grammar.rules):
                self.totals[name][levers] = sum([self.rule_ways(rule, levers) for rule in own])

    def both_ways(self, one, other, levers):
        """How many of both kinds have so many levers together, from the counts of each by levers."""
        return sum([one[first] * other[levers - first] for first in range(1, levers)])

    def names_ways(self, names, levers):
        """How many derivations some names of a rule, from its last ones, have with so many levers."""
        if len(names) == 1:
            return self.totals[names[0]][levers]
        if len(names) == 2:
            return self.pairs[names][levers]
        return self.both_ways(self.totals[names[0]], self.pairs[names[1:]], levers)

    def rule_ways(self, rule, levers):
        """How many derivations a rule makes with so many levers."""
        if rule[0] == "lever":
            return 1 if levers == 1 else 0
        return self.names_ways(rule[1], levers)

    def made_of(self, name, levers, number):
        """The derivation of a name with a number."""
        for index, rule in enumerate(self.rules[name]):
            many = self.rule_ways(rule, levers)
            if number < many:
                return (index, self.parts_of(rule_names(rule), levers, number))
            number -= many
        return None

    def parts_of(self, names, levers, number):
        """The derivations of some names with a number."""
        if len(names) == 0:
            return ()
        if len(names) == 1:
            return (self.made_of(names[0], levers, number),)
        for first in range(1, levers):
            behind = self.names_ways(names[1:], levers - first)
            many = self.totals[names[0]][first] * behind
            if number < many:
                own = self.made_of(names[0], first, number // behind)
                return (own,) + self.parts_of(names[1:], levers - first, number % behind)
            number -= many
        return None

    def parts_number(self, names, parts):
        """The number of some derivations of names, each told as (levers, number)."""
        if len(parts) == 0:
            return 0
        (first, own), rest = parts[0], parts[1:]
        if len(rest) == 0:
            return own
        levers = sum([many for many, _ in parts])
        number = own * self.names_ways(names[1:], levers - first)
        for fewer in range(1, first):
            number += self.totals[names[0]][fewer] * self.names_ways(names[1:], levers - fewer)
        return number + self.parts_number(names[1:], rest)

    def rule_number(self, name, index, parts):
        """(levers, number) of a derivation by a rule, from those of its parts."""
        rule = self.rules[name][index]
        levers = sum([many for many, _ in parts]) if parts else 1
        number = self.parts_number(rule_names(rule), parts)
        for before in self.rules[name][:index]:
            number += self.rule_ways(before, levers)
        return (levers, number)


def made_at(grammar, name, levers, number):
    """The derivation of a name with so many levers that has a number."""
    check_name(grammar, name)
    check_levers(levers, MOST_COUNTED)
    counts = DerivationCounts(grammar, levers)
    if not is_below(number, counts.totals[name][levers]):
        raise Refused(number)
    return counts.made_of(name, levers, number)


def names_by_row(grammar, name, walk):
    """By row of a derivation of a name the name of the part."""
    names = [name] * len(walk.words)
    for row, parts in enumerate(walk.parts):
        for part, own in zip(parts, rule_names(grammar.rules[names[row]][walk.indexes[row]])):
            names[part] = own
    return names


def made_number(grammar, name, derivation):
    """The number of a derivation among those with as many levers."""
    check_name(grammar, name)
    walk = derivation_walk(grammar, name, derivation)
    if walk.many > MOST_COUNTED:
        raise Refused(derivation)
    counts = DerivationCounts(grammar, walk.many)
    names = names_by_row(grammar, name, walk)
    found = [(0, 0)] * len(names)
    for row in reversed(range(len(names))):
        found[row] = counts.rule_number(names[row], walk.indexes[row], [found[part] for part in walk.parts[row]])
    return found[0][1]


class ShapeCounts:
    """By name, by number of levers, how many derivations make each shape.

    In a knot with a word a part, or some together, is told by four counts: of level 0; of levels 0
    and 1; of level 2; of all levels. `parts` has them by word and name, `pairs` of two names.
    """

    def __init__(self, grammar, most):
        empty = [(0, 0, 0, 0)] * (most + 1)
        self.shapes = [[[0] * len(SHAPES)] * (most + 1) for _ in range(grammar.names)]
        self.parts = {(word, name): list(empty) for word in ("all", "any") for name in range(grammar.names)}
        knots = [rule for own in grammar.rules for rule in own if rule_names(rule)]
        self.pairs = {(word, names[-2], names[-1]): list(empty) for word, names in knots}
        for levers in range(1, most + 1):
            for word, one, other in list(self.pairs):
                both = self.both(self.parts[(word, one)], self.parts[(word, other)], levers)
                self.pairs[(word, one, other)][levers] = both
            for name, own in enumerate(grammar.rules):
                self.shapes[name][levers] = self.made_shapes(own, levers)
                for word in ("all", "any"):
                    self.parts[(word, name)][levers] = self.part_counts(self.shapes[name][levers], word)

    def both(self, one, other, levers):
        """The four counts of two parts with so many levers together."""
        flat, low, tall, whole = 0, 0, 0, 0
        for first in range(1, levers):
            here, beside = one[first], other[levers - first]
            if here[3] and beside[3]:
                flat += here[0] * beside[0]
                low += here[1] * beside[1]
                tall += here[1] * beside[2] + here[2] * beside[1]
                whole += here[3] * beside[3]
        return (flat, low, tall, whole)

    def rule_counts(self, rule, levers):
        """The four counts of the names of a knot's rule."""
        word, names = rule
        if len(names) == 2:
            return self.pairs[(word, names[0], names[1])][levers]
        return self.both(self.parts[(word, names[0])], self.pairs[(word, names[1], names[2])], levers)

    def made_shapes(self, rules, levers):
        """By shape how many derivations some rules make."""
        made = [0] * len(SHAPES)
        for rule in rules:
            if rule[0] == "lever":
                made[0] += 1 if levers == 1 else 0
            else:
                flat, low, tall, whole = self.rule_counts(rule, levers)
                for level, count in enumerate((flat, low - flat, tall, whole - low - tall)):
                    made[SHAPES.index(level_shape(level, rule[0]))] += count
        return made

    def part_counts(self, shapes, word):
        """The four counts of a part, from those by shape."""
        levels = [0, 0, 0, 0]
        for shape, count in zip(SHAPES, shapes):
            levels[part_level(shape, word)] += count
        return (levels[0], levels[0] + levels[1], levels[2], sum(levels))


def made_numbers(grammar, name, levers):
    """By shape how many derivations of a name with so many levers make it."""
    check_name(grammar, name)
    check_levers(levers, MOST_COUNTED)
    return tuple(ShapeCounts(grammar, levers).shapes[name][levers])


def joined_trials(word, one, other):
    """(up, down) of a knot of two parts with these."""
    if word == "all":
        return (max(one[0], other[0]), one[1] + other[1])
    return (one[0] + other[0], max(one[1], other[1]))


def empty_rows(count):
    """So many dicts, with nothing in them yet."""
    return [{} for _ in range(count)]


class TrialMakings:
    """By name, by number of levers, by (up, down) some derivation; `pairs` has derivations of two names of a rule."""

    def __init__(self, grammar, most):
        self.made = [empty_rows(most + 1) for _ in range(grammar.names)]
        knots = [rule for own in grammar.rules for rule in own if rule_names(rule)]
        self.pairs = {(word, names[-2], names[-1]): empty_rows(most + 1) for word, names in knots}
        for levers in range(1, most + 1):
            for word, one, other in list(self.pairs):
                both = self.both(word, self.tuples_of(one), self.tuples_of(other), levers)
                self.pairs[(word, one, other)][levers] = both
            for name, own in enumerate(grammar.rules):
                for index, rule in enumerate(own):
                    for trials, parts in self.rule_made(rule, levers).items():
                        self.made[name][levers].setdefault(trials, (index, parts))

    def tuples_of(self, name):
        """By levers, by (up, down), a tuple of one derivation of a name."""
        return [{trials: (made,) for trials, made in row.items()} for row in self.made[name]]

    def both(self, word, one, other, levers):
        """By (up, down) tuples of derivations of both, with so many levers together."""
        found = {}
        for first in range(1, levers):
            for trials, made in one[first].items():
                for beside, more in other[levers - first].items():
                    found.setdefault(joined_trials(word, trials, beside), made + more)
        return found

    def rule_made(self, rule, levers):
        """By (up, down) the derivations of the names of a rule."""
        if rule[0] == "lever":
            return {(1, 1): ()} if levers == 1 else {}
        word, names = rule
        pair = self.pairs[(word, names[-2], names[-1])]
        if len(names) == 2:
            return pair[levers]
        return self.both(word, self.tuples_of(names[0]), pair, levers)


def trial_pairs(grammar, name, levers):
    """The (up, down) of the conditions of a name with so many levers."""
    check_name(grammar, name)
    check_levers(levers, MOST_PAIRED)
    return tuple(sorted(TrialMakings(grammar, levers).made[name][levers]))


def pair_made(grammar, name, levers, up, down):
    """A derivation of a condition with so many levers and these trials, or None."""
    check_name(grammar, name)
    check_levers(levers, MOST_PAIRED)
    for number in (up, down):
        if not is_number(number):
            raise Refused(number)
    return TrialMakings(grammar, levers).made[name][levers].get((up, down))
