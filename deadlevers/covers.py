"""Which settings of a list are needed for what it clears."""

from deadlevers.columns import full_column
from deadlevers.errors import TooGreat


def cleared_columns(clears):
    """The columns of the pairs of lever and place that a list clears, from `clear_columns`."""
    return [column for pair in clears for column in pair if column != 0]


def needed_bits(columns):
    """The settings that alone clear something."""
    needed = 0
    for column in columns:
        if column & (column - 1) == 0:
            needed |= column
    return needed


def kept_bits(columns, count):
    """The settings that stay if each that can be is left out, from the last one on."""
    kept = full_column(count)
    for at in reversed(range(count)):
        bit = 1 << at
        if all([column & kept != bit for column in columns]):
            kept ^= bit
    return kept


def setting_covers(columns, count):
    """By setting what it clears, a bit for each column."""
    covers = [0] * count
    for number, column in enumerate(columns):
        for at in range(count):
            covers[at] |= (column >> at & 1) << number
    return covers


class CoverSearch:
    """The search for the fewest settings that clear all; each step of a round is another tuple."""

    def __init__(self, covers, most):
        self.covers = covers
        self.most = most
        self.steps = 0
        self.behind = [0] * (len(covers) + 1)
        for at in reversed(range(len(covers))):
            self.behind[at] = self.behind[at + 1] | covers[at]

    def search(self, start, count, missing):
        """The least tuple of `count` indexes from `start` on that clears what is missing, or None."""
        self.steps += 1
        if self.steps > self.most:
            raise TooGreat(self.most)
        if missing == 0:
            return ()
        if count == 0:
            return None
        for at in range(start, len(self.covers)):
            if missing & ~self.behind[at]:
                return None
            if missing & self.covers[at]:
                rest = self.search(at + 1, count - 1, missing & ~self.covers[at])
                if rest is not None:
                    return (at,) + rest
        return None

    def answer(self):
        """The least of the shortest tuples that clear all."""
        for count in range(len(self.covers) + 1):
            self.steps = 0
            found = self.search(0, count, self.behind[0])
            if found is not None:
                return found
        return None
