"""How many dead levers must be looked for at once, at most, in the conditions of a grammar.

Derivations of a name with so many levers are known by what `sharpways` tells of a part: the bits of
its dead parts, those that are alive in it among them. By these bits, by the word of the root, and by
the value at which a whole part is held, one derivation with the most dead levers is kept.
"""

from deadlevers.countings import MOST_PAIRED, empty_rows
from deadlevers.grammars import check_name, rule_names
from deadlevers.holding import settling_value
from deadlevers.sharpways import ALIVE, DEAD, SHARP, met_bits
from deadlevers.sizes import check_levers

VALUES = (0, 1)


def put_greater(found, key, count, made):
    """Put something made to its key if it has a greater count than what is there."""
    if key not in found or count > found[key][0]:
        found[key] = (count, made)


def as_tuples(found):
    """The same with one derivation in a tuple in the place of each."""
    return {key: (count, (made,)) for key, (count, made) in found.items()}


class MeetingMakings:
    """By name and number of levers the derivations with the most dead levers.

    `held` has them by (word, value) for whole parts that are held; `kinds` by (word, bits) for others,
    in which all parts may be dead. `given`, by word and name, has by bits what a name gives to a knot
    with a word; `wholes` has by name and value what it takes to hold it. `pairs` and `whole_pairs` have
    the same for two names, by the word of their rule.
    """

    def __init__(self, grammar, most):
        names = list(range(grammar.names))
        keys = [(word, name) for word in ("all", "any") for name in names]
        knots = [rule for own in grammar.rules for rule in own if rule_names(rule)]
        tails = [(word, own[-2], own[-1]) for word, own in knots]
        self.held = [empty_rows(most + 1) for _ in names]
        self.kinds = [empty_rows(most + 1) for _ in names]
        self.wholes = [empty_rows(most + 1) for _ in names]
        self.given = {key: empty_rows(most + 1) for key in keys}
        self.pairs = {tail: empty_rows(most + 1) for tail in tails}
        self.whole_pairs = {tail: empty_rows(most + 1) for tail in tails}
        for levers in range(1, most + 1):
            self.put_pairs(levers)
            for name, rules in enumerate(grammar.rules):
                for index, rule in enumerate(rules):
                    self.put_rule(name, index, rule, levers)
                self.put_wholes(name, levers)

    def put_pairs(self, levers):
        """Put what two names of rules come to with so many levers."""
        for tail in list(self.pairs):
            word, one, other = tail
            self.pairs[tail][levers] = self.both(word, self.singles(word, one), self.singles(word, other), levers)
            both = self.both_wholes(word, self.whole_singles(one), self.whole_singles(other), levers)
            self.whole_pairs[tail][levers] = both

    def singles(self, word, name):
        """By levers, by bits, what a name gives to a knot, as tuples."""
        return [as_tuples(found) for found in self.given[(word, name)]]

    def whole_singles(self, name):
        """By levers, by value, what it takes to hold a name, as tuples."""
        return [as_tuples(found) for found in self.wholes[name]]

    def both(self, word, one, other, levers):
        """By bits what two kinds of parts of a knot come to with so many levers."""
        found = {}
        for first in range(1, levers):
            for bits, (count, made) in one[first].items():
                for beside, (many, more) in other[levers - first].items():
                    put_greater(found, met_bits(word, bits, beside), count + many, made + more)
        return found

    def both_wholes(self, word, one, other, levers):
        """By value what it takes to hold a knot of two kinds of parts: one of them if that settles it, else both."""
        found = {}
        for first in range(1, levers):
            for value, (count, made) in one[first].items():
                if value in other[levers - first]:
                    many, more = other[levers - first][value]
                    taken = min(count, many) if settling_value(word) == value else count + many
                    put_greater(found, value, taken, made + more)
        return found

    def put_rule(self, name, index, rule, levers):
        """Put what a rule makes with so many levers."""
        if rule[0] == "lever":
            if levers == 1:
                for value in VALUES:
                    put_greater(self.held[name][1], ("lever", value), 1, (index, ()))
            return
        word, names = rule
        tail = (word, names[-2], names[-1])
        kinds = self.pairs[tail][levers]
        wholes = self.whole_pairs[tail][levers]
        if len(names) == 3:
            kinds = self.both(word, self.singles(word, names[0]), self.pairs[tail], levers)
            wholes = self.both_wholes(word, self.whole_singles(names[0]), self.whole_pairs[tail], levers)
        for bits, (count, parts) in kinds.items():
            put_greater(self.kinds[name][levers], (word, bits), count, (index, parts))
        for value, (count, parts) in wholes.items():
            put_greater(self.held[name][levers], (word, value), count, (index, parts))

    def put_wholes(self, name, levers):
        """Put what the derivations of a name with so many levers give to rules with it."""
        for (_, value), (count, made) in self.held[name][levers].items():
            put_greater(self.wholes[name][levers], value, count, made)
        for word in ("all", "any"):
            found = self.given[(word, name)][levers]
            dead = 1 - settling_value(word)
            for (own, value), (count, made) in self.held[name][levers].items():
                if own == "lever":
                    put_greater(found, ALIVE, 0, made)
                # A knot of the same word gives its parts, so it is not dead as a whole.
                if own != word and value == dead:
                    put_greater(found, DEAD[dead], count, made)
            for (own, bits), (count, made) in self.kinds[name][levers].items():
                if own == word or bits & ALIVE:
                    put_greater(found, bits, count, made)

    def greatest(self, name, levers):
        """(the greatest number of dead levers, a derivation with it), None if there is no derivation."""
        found = {}
        for (_, bits), (count, made) in self.kinds[name][levers].items():
            if bits == SHARP:
                put_greater(found, SHARP, count, made)
        for value, (_, made) in self.wholes[name][levers].items():
            # Where nothing hides anything one dead lever at once is enough.
            if value == 0:
                put_greater(found, SHARP, 1, made)
        return found.get(SHARP)


def greatest_meeting(grammar, name, levers):
    """The greatest `catch_number` of the conditions of a name with so many levers, or None."""
    check_name(grammar, name)
    check_levers(levers, MOST_PAIRED)
    found = MeetingMakings(grammar, levers).greatest(name, levers)
    return None if found is None else found[0]


def meeting_made(grammar, name, levers):
    """A derivation whose condition has this number, or None."""
    check_name(grammar, name)
    check_levers(levers, MOST_PAIRED)
    found = MeetingMakings(grammar, levers).greatest(name, levers)
    return None if found is None else found[1]
