"""Lots of levers with half of some weights."""

from deadlevers.columns import full_column
from deadlevers.values import are_ascending, is_below, is_sequence

MOST_WEIGHTS = 200
MOST_WEIGHT = 100


def are_weights(value):
    """Whether any value is a sequence of 2 to 200 numbers from 1 to 100 with an even sum."""
    if not is_sequence(value) or not 2 <= len(value) <= MOST_WEIGHTS:
        return False
    if not all([is_below(weight, MOST_WEIGHT + 1) and weight > 0 for weight in value]):
        return False
    return sum(value) % 2 == 0


def is_half(value, weights):
    """Whether any value is a sequence of ascending, unlike levers of half the weight."""
    if not are_ascending(value, len(weights)):
        return False
    return 2 * sum([weights[lever] for lever in value]) == sum(weights)


def other_levers(lot, many):
    """The levers below `many` that are not in a lot."""
    inner = {lever: True for lever in lot}
    return tuple([lever for lever in range(many) if lever not in inner])


class HalfCounts:
    """How many lots of the last levers have each weight, up to half.

    `packed` has by lever an integer for this one and those behind it: the count of a weight stands
    in the `width` bits from weight times width on. No count is so great that it fills them.
    """

    def __init__(self, weights):
        self.weights = weights
        self.half = sum(weights) // 2
        self.width = len(weights) + 1
        whole = full_column((self.half + 1) * self.width)
        packed = [1]
        for weight in weights[::-1]:
            packed.append((packed[-1] + (packed[-1] << (weight * self.width))) & whole)
        self.packed = packed[::-1]

    def lots_of(self, lever, weight):
        """How many lots of this lever and those behind it have a weight."""
        if weight < 0:
            return 0
        return (self.packed[lever] >> (weight * self.width)) & full_column(self.width)

    def total(self):
        """How many lots have half the weight."""
        return self.lots_of(0, self.half)

    def numbered(self, number):
        """The lot of half the weight with a number, of all as ascending tuples."""
        left = self.half
        lot = []
        for lever, weight in enumerate(self.weights):
            taking = self.lots_of(lever + 1, left - weight)
            # Lots with this lever next stand ahead of those without it.
            if number < taking:
                lot.append(lever)
                left -= weight
            else:
                number -= taking
        return tuple(lot)

    def rank(self, lot):
        """The number of a lot of half the weight."""
        inner = {lever: True for lever in lot}
        left = self.half
        number = 0
        for lever, weight in enumerate(self.weights):
            if lever in inner:
                left -= weight
            else:
                number += self.lots_of(lever + 1, left - weight)
        return number
