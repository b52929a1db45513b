"""Lots of levers with half of some weights."""

from deadlevers.values import are_ascending, is_below, is_sequence

MOST_WEIGHTS = 200
MOST_WEIGHT = 100


def are_weights(value):
    """Whether any value is a sequence of 2 to 200 numbers from 1 to 100 with an even sum."""
    if not is_sequence(value) or not 2 <= len(value) <= MOST_WEIGHTS:
        return False
    if not all([is_below(weight, MOST_WEIGHT + 1) and weight > 0 for weight in value]):
        return False
    return sum(value) % 2 == 0


def is_half(value, weights):
    """Whether any value is a sequence of ascending, unlike levers of half the weight."""
    if not are_ascending(value, len(weights)):
        return False
    return 2 * sum([weights[lever] for lever in value]) == sum(weights)


def other_levers(lot, many):
    """The levers below `many` that are not in a lot."""
    return tuple([lever for lever in range(many) if lever not in lot])


class HalfCounts:
    """By weight, up to half, how many lots of the last levers have it; at first of all levers."""

    def __init__(self, weights):
        self.weights = weights
        self.counts = [1] + [0] * (sum(weights) // 2)
        self.first = len(weights)
        while self.first > 0:
            self.put_first()

    def put_first(self):
        """Take one lever more, ahead of those that are counted."""
        self.first -= 1
        weight = self.weights[self.first]
        for at in reversed(range(weight, len(self.counts))):
            self.counts[at] += self.counts[at - weight]

    def drop_first(self):
        """Leave the first of the levers that are counted out."""
        weight = self.weights[self.first]
        self.first += 1
        for at in range(weight, len(self.counts)):
            self.counts[at] -= self.counts[at - weight]


def count_halves(weights):
    """How many lots have half the weight."""
    return HalfCounts(weights).counts[-1]


def numbered_half(weights, number):
    """The lot of half the weight with a number, of all as ascending tuples."""
    halves = HalfCounts(weights)
    left = sum(weights) // 2
    lot = []
    for lever, weight in enumerate(weights):
        halves.drop_first()
        taking = halves.counts[left - weight] if weight <= left else 0
        # Lots with this lever next stand ahead of those without it.
        if number < taking:
            lot.append(lever)
            left -= weight
        else:
            number -= taking
    return tuple(lot)


def half_rank(weights, lot):
    """The number of a lot of half the weight."""
    halves = HalfCounts(weights)
    left = sum(weights) // 2
    number = 0
    for lever, weight in enumerate(weights):
        halves.drop_first()
        if lever in lot:
            left -= weight
        elif weight <= left:
            number += halves.counts[left - weight]
    return number
