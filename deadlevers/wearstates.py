"""All lots of a small tree, and no death at all, as bits of integers: sets of them are called masks here.

The bit of a lot is told by a digit for each lever, the lever z counting 3 to the power of z: 0 if it is
alive, 1 if it is dead at 0, 2 if at 1.
"""

from deadlevers.columns import full_column, lamp_columns
from deadlevers.errors import TooGreat
from deadlevers.lists import powers
from deadlevers.walks import tree_walk

MOST_WORN = 6


def digit_mask(digit, lever, weights):
    """The lots in which a lever has a digit; `weights` are what the digits count, and how many lots there are."""
    mask = full_column(weights[lever]) << (digit * weights[lever])
    for size in weights[lever + 1:-1]:
        mask |= mask << size | mask << (2 * size)
    return mask


class DeathStates:
    """The lots of a tree: by lever the masks of those in which it is alive, dead at 0, dead at 1."""

    def __init__(self, walk):
        many = walk.many
        self.walk = walk
        counts = powers(3, many)
        self.weights = counts[:-1]
        self.masks = [tuple([digit_mask(digit, lever, counts) for digit in range(3)]) for lever in range(many)]
        self.full = full_column(counts[-1])
        self.burning = {}

    def burning_at(self, setting):
        """The lots with which the lamp burns at a setting."""
        if setting not in self.burning:
            columns = [
                dead_up | alive if place == 1 else dead_up for place, (alive, _, dead_up) in zip(setting, self.masks)
            ]
            self.burning[setting] = lamp_columns(self.walk, columns)[0]
        return self.burning[setting]

    def showing(self, setting, lamp):
        """The lots with which the lamp is so at a setting."""
        burning = self.burning_at(setting)
        return burning if lamp == 1 else self.full ^ burning

    def wider(self, mask):
        """The lots that hold all of some lot."""
        for weight, (alive, _, _) in zip(self.weights, self.masks):
            mask |= (mask & alive) << weight | (mask & alive) << (2 * weight)
        return mask

    def narrower(self, mask):
        """The lots of which some lot holds all."""
        for weight, (alive, _, _) in zip(self.weights, self.masks):
            mask |= mask >> weight & alive | mask >> (2 * weight) & alive
        return mask

    def of_sizes(self, most):
        """By count of dead levers, to the most, the lots with just so many."""
        sizes = [self.full] + [0] * most
        for alive, dead, dead_up in self.masks:
            for size in reversed(range(most + 1)):
                fewer = sizes[size - 1] & (dead | dead_up) if size > 0 else 0
                sizes[size] = sizes[size] & alive | fewer
        return sizes

    def lot_of(self, number):
        """The lot of a bit, () for no death."""
        lot = []
        for lever in range(self.walk.many):
            digit = number // self.weights[lever] % 3
            if digit > 0:
                lot.append((lever, digit - 1))
        return tuple(lot)

    def bit_of(self, lot):
        """The bit of a lot, or of ()."""
        return sum([self.weights[lever] * (place + 1) for lever, place in lot])

    def lots_of(self, mask):
        """The lots of a mask, ascending."""
        return sorted([self.lot_of(number) for number in range(mask.bit_length()) if mask >> number & 1])


def death_states(tree):
    """The lots of any value that is a tree with at most six levers; else BadTree or TooGreat."""
    walk = tree_walk(tree)
    if walk.many > MOST_WORN:
        raise TooGreat(MOST_WORN)
    return DeathStates(walk)
