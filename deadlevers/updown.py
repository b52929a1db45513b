"""The fewest trials that clear all levers of a tree."""

from deadlevers.walks import tree_walk
from deadlevers.wishes import rows_wished


def trial_counts(tree):
    """(up, down): the fewest burning settings that clear all levers, and the fewest dark ones."""
    walk = tree_walk(tree)
    once = [1] * walk.many
    return (rows_wished(walk, once, 1)[0], rows_wished(walk, once, 0)[0])
