"""Pairs of levers: they tell trees, and what lots leave of them, apart."""

from deadlevers.columns import filled_setting, setting_lamp
from deadlevers.errors import Refused
from deadlevers.trees import check_lot, check_tree, left_part, tree_levers
from deadlevers.values import check_lever
from deadlevers.walks import levers_by_row, parting_row, read_form, row_levers, row_place, tree_walk

PAIR_PLACES = ((0, 0), (1, 0), (0, 1), (1, 1))


def check_pair(walk, one, other):
    """Raise NoLever or Refused if these are not two unlike levers of the tree."""
    check_lever(one, walk.many)
    check_lever(other, walk.many)
    if one == other:
        raise Refused(other)


def pair_place(tree, one, other):
    """The place of the knot at which the ways of two levers part."""
    walk = tree_walk(tree)
    check_pair(walk, one, other)
    return row_place(walk, parting_row(walk, one, other))


def pair_word(tree, one, other):
    """The word of the knot at which the ways of two levers part."""
    walk = tree_walk(tree)
    check_pair(walk, one, other)
    return walk.words[parting_row(walk, one, other)]


def bare_setting(tree, one, other):
    """The setting with two levers down at which the lamp is that of their knot with them alone."""
    walk = tree_walk(tree)
    check_pair(walk, one, other)
    return filled_setting(walk, 1 << one | 1 << other, 0, walk.many)


def words_by_pair(walk, many):
    """For two levers below `many` the word of the knot at which they part, "" if not both are there."""
    words = [[""] * many for _ in range(many)]
    levers = levers_by_row(walk)
    for row in range(len(levers)):
        ahead = []
        for part in walk.parts[row]:
            for one in levers[part]:
                for other in ahead:
                    words[one][other] = walk.words[row]
                    words[other][one] = walk.words[row]
            ahead = ahead + levers[part]
    return words


def unlike_pair(walk, beside, many):
    """The first pair of levers that has unlike words in two walks, or None."""
    words = words_by_pair(walk, many)
    others = words_by_pair(beside, many)
    for one in range(many):
        for other in range(one + 1, many):
            if words[one][other] != others[one][other]:
                return (one, other)
    return None


def with_places(setting, levers, places):
    """The setting with some levers at other places."""
    changed = list(setting)
    for lever, place in zip(levers, places):
        changed[lever] = place
    return tuple(changed)


def parted_setting(walk, beside, pair, many):
    """The bare setting of the first walk, for a pair of unlike words, at which the lamps are unlike."""
    bare = filled_setting(walk, 1 << pair[0] | 1 << pair[1], 0, many)
    for places in PAIR_PLACES:
        setting = with_places(bare, pair, places)
        if setting_lamp(walk, setting) != setting_lamp(beside, setting):
            return setting
    return None


def tree_parting(tree, other):
    """None if two trees are alike, else (one, other, setting) that tells them apart."""
    walk = tree_walk(tree)
    beside = tree_walk(other)
    if walk.many != beside.many:
        raise Refused(other)
    pair = unlike_pair(walk, beside, walk.many)
    if pair is None:
        return None
    return (pair[0], pair[1], parted_setting(walk, beside, pair, walk.many))


def what_levers(left):
    """The levers of what a lot leaves, in no order."""
    if left[0] == "lamp":
        return []
    return row_levers(read_form(left[1]))


def left_lamp(left, setting):
    """The lamp of what a lot leaves."""
    if left[0] == "lamp":
        return left[1]
    return setting_lamp(read_form(left[1]), setting)


def own_lever_setting(left, beside, lever, many):
    """A setting that parts what two lots leave; the lever is in the first, not in the other one."""
    setting = filled_setting(read_form(left[1]), 1 << lever, 0, many)
    # The first lamp is as this lever stands, the other one does not heed it.
    return with_places(setting, [lever], [1 - left_lamp(beside, setting)])


def left_parting(left, beside, many):
    """A setting at which what two lots leave has unlike lamps, or None."""
    levers = what_levers(left)
    others = what_levers(beside)
    for lever in levers:
        if lever not in others:
            return own_lever_setting(left, beside, lever, many)
    for lever in others:
        if lever not in levers:
            return own_lever_setting(beside, left, lever, many)
    if not levers:
        return None if left == beside else tuple([0] * many)
    walk = read_form(left[1])
    other_walk = read_form(beside[1])
    pair = unlike_pair(walk, other_walk, many)
    if pair is None:
        return None
    return parted_setting(walk, other_walk, pair, many)


def lot_parting(tree, lot, other):
    """None if a tree with either lot has the same lamps, else some setting at which it has not."""
    whole = check_tree(tree)
    many = tree_levers(whole)
    first = check_lot(lot, many)
    second = check_lot(other, many)
    return left_parting(left_part(whole, first), left_part(whole, second), many)
