"""Which numbers of trials there are for so many levers, and for how many trees."""

from math import comb, isqrt

from deadlevers.errors import Refused
from deadlevers.values import is_below, is_integer
from deadlevers.walks import MOST_LEVERS

MOST_SUM_LEVERS = 1000000000000000000
MOST_COUNTED_LEVERS = 14


def check_levers(levers, most):
    """Raise Refused for any value that is no number of levers from 1 to the most."""
    if not is_below(levers, most + 1) or levers == 0:
        raise Refused(levers)


def is_size(levers, up, down):
    """Whether some tree with so many levers has these numbers of trials."""
    return up >= 1 and down >= 1 and up + down - 1 <= levers <= up * down


def size_pairs(levers):
    """All (up, down) of trees with so many levers."""
    check_levers(levers, MOST_LEVERS)
    pairs = [(up, down) for up in range(1, levers + 1) for down in range(1, levers + 1)]
    return tuple([(up, down) for up, down in pairs if is_size(levers, up, down)])


def least_trials(levers):
    """The least up + down of trees with so many levers."""
    check_levers(levers, MOST_SUM_LEVERS)
    # The greatest product for a sum is the quarter of the sum's square, rounded down.
    return isqrt(4 * levers - 1) + 1


def part_of(word, parts):
    """The knot with these parts, in their order; one alone is itself."""
    if len(parts) == 1:
        return parts[0]
    return (word, tuple(parts))


def sized_tree(levers, up, down):
    """A tree with so many levers and these numbers of trials."""
    check_levers(levers, MOST_LEVERS)
    if not is_integer(up) or not is_integer(down) or not is_size(levers, up, down):
        raise Refused((up, down))
    parts = []
    first = 0
    for behind in reversed(range(up)):
        # Each part behind wants one lever at least, so the first one has just `down`.
        count = min(down, levers - first - behind)
        parts.append(part_of("all", list(range(first, first + count))))
        first += count
    return part_of("any", parts)


def with_kinds(sums, size, down, kinds):
    """The numbers of sets of parts, if so many kinds of parts of a size and a down come in.

    `sums` tells by the levers of all parts, and by the sum of their downs, how many sets there
    are; a set may have the same part several times.
    """
    most = len(sums) - 1
    made = [list(row) for row in sums]
    for count in range(1, most // size + 1):
        choices = comb(kinds + count - 1, count)
        for levers in range(count * size, most + 1):
            for total in range(count * down, most + 1):
                made[levers][total] += choices * sums[levers - count * size][total - count * down]
    return made


def knots_by_pair(sums_by_up, size):
    """By (up, down) how many "all" knots of a size there are, from the sets of parts."""
    found = {}
    for up in range(1, len(sums_by_up)):
        for down in range(len(sums_by_up)):
            # An "all" knot has the greatest up of its parts, and the sum of their downs.
            count = sums_by_up[up][size][down] - sums_by_up[up - 1][size][down]
            if count > 0:
                found[(up, down)] = count
    return found


def with_knots(sums_by_up, size, knots):
    """The sets of parts, by the greatest up that is let, if the "any" knots of a size come in.

    `knots` tells of the "all" knots of this size; "any" knots have up and down exchanged.
    """
    made = []
    for most_up in range(len(sums_by_up)):
        sums = sums_by_up[most_up]
        for down in range(1, len(sums_by_up)):
            kinds = sum([knots.get((down, up), 0) for up in range(1, most_up + 1)])
            if kinds > 0:
                sums = with_kinds(sums, size, down, kinds)
        made.append(sums)
    return made


def tree_numbers(levers):
    """(up, down, how many trees) by pair, trees with like forms counted once."""
    check_levers(levers, MOST_COUNTED_LEVERS)
    if levers == 1:
        return ((1, 1, 1),)
    none = [[0] * (levers + 1) for _ in range(levers + 1)]
    none[0][0] = 1
    sums_by_up = [none] + [with_kinds(none, 1, 1, 1) for _ in range(levers)]
    for size in range(2, levers):
        sums_by_up = with_knots(sums_by_up, size, knots_by_pair(sums_by_up, size))
    knots = knots_by_pair(sums_by_up, levers)
    pairs = sorted(set(list(knots) + [(down, up) for up, down in knots]))
    return tuple([(up, down, knots.get((up, down), 0) + knots.get((down, up), 0)) for up, down in pairs])
