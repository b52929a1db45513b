"""The settings at which the lamp of a tree burns, counted and found by number."""

from deadlevers.errors import Refused
from deadlevers.trees import check_setting
from deadlevers.values import is_below
from deadlevers.walks import inner_first, tree_walk

FREE = (1, 1)
HELD = ((1, 0), (0, 1))


def product_of(numbers):
    """Their product, 1 for none."""
    result = 1
    for number in numbers:
        result = result * number
    return result


def ways_by_row(walk, ways):
    """By row at how many settings the part is (dark, burning), if its levers have such ways."""
    found = [(0, 0)] * len(walk.words)
    for row in inner_first(walk):
        if walk.parts[row]:
            parts = [found[part] for part in walk.parts[row]]
            whole = product_of([dark + burning for dark, burning in parts])
            if walk.words[row] == "all":
                burning = product_of([way[1] for way in parts])
            else:
                burning = whole - product_of([way[0] for way in parts])
            found[row] = (whole - burning, burning)
        else:
            found[row] = ways[walk.levers[row]]
    return found


def burning_ways(walk, ways):
    """At how many settings the lamp burns, if the levers have such ways."""
    return ways_by_row(walk, ways)[0][1]


def burning_number(tree):
    """At how many settings the lamp burns."""
    walk = tree_walk(tree)
    return burning_ways(walk, [FREE] * walk.many)


def burning_at(tree, number):
    """Of the settings at which the lamp burns the one of an index."""
    walk = tree_walk(tree)
    ways = [FREE] * walk.many
    if not is_below(number, burning_ways(walk, ways)):
        raise Refused(number)
    left = number
    setting = [0] * walk.many
    # The last lever counts most, so it is settled first.
    for lever in reversed(range(walk.many)):
        ways[lever] = HELD[0]
        lesser = burning_ways(walk, ways)
        if left >= lesser:
            left -= lesser
            setting[lever] = 1
            ways[lever] = HELD[1]
    return tuple(setting)


def burning_before(tree, setting):
    """How many settings at which the lamp burns have a lesser number than this one."""
    walk = tree_walk(tree)
    places = check_setting(setting, walk.many)
    ways = [FREE] * walk.many
    count = 0
    for lever in reversed(range(walk.many)):
        if places[lever] == 1:
            ways[lever] = HELD[0]
            count += burning_ways(walk, ways)
        ways[lever] = HELD[places[lever]]
    return count
