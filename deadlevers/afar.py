"""How far boxes of a tree's shape are from the tree."""

from deadlevers.burning import FREE, product_of, ways_by_row
from deadlevers.faults import fault_rows
from deadlevers.values import is_number
from deadlevers.walks import inner_first, tree_walk

# By a lever's fault at how many of its places the lamps are (tree's, box's): (0, 0), (0, 1), (1, 0), (1, 1).
LEVER_COUNTS = {0: (1, 0, 1, 0), 1: (0, 1, 0, 1), "alive": (1, 0, 0, 1), "turned": (0, 1, 1, 0)}


def told_ways(word, rule, parts):
    """By (the tree's lamp of a knot, what its rule has heard) at how many settings; from those of its parts.

    A rule that is a number has heard how many parts burn, a table which of them, a bit each.
    """
    ways = {(1 if word == "all" else 0, 0): 1}
    for at, counts in enumerate(parts):
        more = {}
        for (lamp, heard), many in ways.items():
            for number, count in enumerate(counts):
                own = lamp & number >> 1 if word == "all" else lamp | number >> 1
                bit = number & 1 if is_number(rule) else (number & 1) << at
                more[(own, heard + bit)] = more.get((own, heard + bit), 0) + many * count
        ways = more
    return ways


def knot_counts(word, rule, parts):
    """At how many settings a knot's lamps are so, from those of its parts."""
    counts = [0, 0, 0, 0]
    for (lamp, heard), many in told_ways(word, rule, parts).items():
        if is_number(rule):
            burns = 1 if heard >= rule else 0
        else:
            burns = rule[heard]
        counts[2 * lamp + burns] += many
    return tuple(counts)


def off_counts(tree, fault):
    """At how many settings both lamps are dark, the box's alone burns, the tree's alone, both burn."""
    walk = tree_walk(tree)
    told = fault_rows(walk, fault)
    counts = [()] * len(told)
    for row in inner_first(walk):
        if walk.parts[row]:
            counts[row] = knot_counts(walk.words[row], told[row], [counts[part] for part in walk.parts[row]])
        else:
            counts[row] = LEVER_COUNTS[told[row]]
    return counts[0]


def hung_counts(walk):
    """By row how many settings of all levers outside of the part make the lamp hang on it."""
    ways = ways_by_row(walk, [FREE] * walk.many)
    counts = [1] * len(walk.words)
    for row, parts in enumerate(walk.parts):
        if parts:
            passing = [ways[part][1 if walk.words[row] == "all" else 0] for part in parts]
            whole = counts[row] * product_of(passing)
            for part, own in zip(parts, passing):
                counts[part] = whole // own
    return counts


def nearest_of(walk):
    """The least number of settings of the others at which the lamp hangs on some lever, and the least such one."""
    by_row = hung_counts(walk)
    counts = [by_row[walk.rows[lever]] for lever in range(walk.many)]
    least = min(counts)
    return (least, counts.index(least))


def nearest_box(tree):
    """The least number of settings of the others at which the lamp hangs on some lever, and the least such one."""
    return nearest_of(tree_walk(tree))


def blind_number(tree):
    """How many settings, all unlike, may not be enough to tell the tree from the boxes of its shape."""
    walk = tree_walk(tree)
    return (1 << walk.many) - nearest_of(walk)[0]
