"""How far boxes of a tree's shape are from the tree."""

from deadlevers.faults import fault_rows
from deadlevers.trials import hung_count
from deadlevers.values import is_number
from deadlevers.walks import inner_first, tree_walk

# By a lever's fault at how many of its places the lamps are (tree's, box's): (0, 0), (0, 1), (1, 0), (1, 1).
LEVER_COUNTS = {0: (1, 0, 1, 0), 1: (0, 1, 0, 1), "alive": (1, 0, 0, 1), "turned": (0, 1, 1, 0)}


def told_ways(word, rule, parts):
    """By (the tree's lamp of a knot, what its rule has heard) at how many settings; from those of its parts.

    A rule that is a number has heard how many parts burn, a table which of them, a bit each.
    """
    ways = {(1 if word == "all" else 0, 0): 1}
    for at, counts in enumerate(parts):
        more = {}
        for (lamp, heard), many in ways.items():
            for number, count in enumerate(counts):
                own = lamp & number >> 1 if word == "all" else lamp | number >> 1
                bit = number & 1 if is_number(rule) else (number & 1) << at
                more[(own, heard + bit)] = more.get((own, heard + bit), 0) + many * count
        ways = more
    return ways


def knot_counts(word, rule, parts):
    """At how many settings a knot's lamps are so, from those of its parts."""
    counts = [0, 0, 0, 0]
    for (lamp, heard), many in told_ways(word, rule, parts).items():
        if is_number(rule):
            burns = 1 if heard >= rule else 0
        else:
            burns = rule[heard]
        counts[2 * lamp + burns] += many
    return tuple(counts)


def off_counts(tree, fault):
    """At how many settings both lamps are dark, the box's alone burns, the tree's alone, both burn."""
    walk = tree_walk(tree)
    told = fault_rows(walk, fault)
    counts = [()] * len(told)
    for row in inner_first(walk):
        if walk.parts[row]:
            counts[row] = knot_counts(walk.words[row], told[row], [counts[part] for part in walk.parts[row]])
        else:
            counts[row] = LEVER_COUNTS[told[row]]
    return counts[0]


def nearest_box(tree):
    """The least number of settings of the others at which the lamp hangs on some lever, and the least such one."""
    counts = [hung_count(tree, lever) for lever in range(tree_walk(tree).many)]
    return (min(counts), counts.index(min(counts)))


def blind_number(tree):
    """How many settings, all unlike, may not be enough to tell the tree from the boxes of its shape."""
    number, _ = nearest_box(tree)
    return (1 << tree_walk(tree).many) - number
