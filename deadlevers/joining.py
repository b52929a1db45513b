"""Which nets are trees, and which three nets are in those that are not honest."""

from deadlevers.columns import filled_setting
from deadlevers.cores import told_tree
from deadlevers.court import is_honest, tall_place
from deadlevers.errors import BadLot
from deadlevers.hanging import lever_bits
from deadlevers.nets import left_by, needed_taps
from deadlevers.reducing import Reducing
from deadlevers.trees import check_deaths, joined, part_at, part_levers
from deadlevers.values import has_length, is_below, is_sequence, is_word
from deadlevers.walks import read_form, tree_walk

NO_WAY = ("lamp", 0)


def reduced(left):
    """The joining of all taps of what is left of a net."""
    reducing = Reducing(left[1])
    reducing.join_all()
    return reducing


def net_tree(net):
    """(tree, taps) with the net's lamp at each setting, or None."""
    left = left_by(net, ())
    if left[0] == "lamp":
        return None
    tree = reduced(left).whole_part()
    return None if tree is None else (tree, left[2])


def bridge_taps(left):
    """The five taps (a, b, c, d, m) of what is left of a net, None if they make no bridge."""
    if left[0] == "lamp" or left[1].nodes != 4 or len(left[2]) != 5:
        return None
    found = {(min(pair), max(pair)): tap for pair, tap in zip(left[1].taps, left[2])}
    # Five unlike pairs of four nodes, but for that of the ends.
    if len(found) < 5 or (0, 1) in found:
        return None
    return tuple([found[pair] for pair in ((0, 2), (0, 3), (1, 2), (1, 3), (2, 3))])


def is_no_tree(left):
    """Whether taps are left, and they make no tree."""
    return left[0] == "net" and reduced(left).whole_part() is None


def bridge_paper(net):
    """("bridge", lot, taps) for a net that is no tree."""
    lot = []
    for tap in range(len(net.taps)):
        # What keeps a net from being a tree is never lost but by the taps of the last bridge.
        for place in (0, 1):
            if is_no_tree(left_by(net, lot + [(tap, place)])):
                lot.append((tap, place))
                break
    return ("bridge", tuple(lot), bridge_taps(left_by(net, lot)))


def net_paper(net):
    """Why a net is never lit, or is a tree, or is none."""
    left = left_by(net, ())
    if left[0] == "lamp":
        return NO_WAY
    reducing = Reducing(left[1])
    steps = reducing.join_all()
    tree = reducing.whole_part()
    if tree is None:
        return bridge_paper(net)
    return ("tree", tree, left[2], steps)


def told_lot(value, many):
    """Any value that is a lot or an empty sequence, as tuples; else None."""
    try:
        return check_deaths(value, many)
    except BadLot:
        return None


def left_told(net, lot, taps, count):
    """What any value that is a lot, perhaps empty, leaves of a net, if just these taps are left; else None."""
    dead = told_lot(lot, len(net.taps))
    if dead is None or not has_length(taps, count) or not all([is_below(tap, len(net.taps)) for tap in taps]):
        return None
    left = left_by(net, dead)
    if left[0] == "lamp" or tuple(sorted(taps)) != left[2]:
        return None
    return left


def bridge_holds(net, lot, taps):
    """Whether any values tell a bridge of the net."""
    left = left_told(net, lot, taps, 5)
    if left is None:
        return False
    found = bridge_taps(left)
    if found is None:
        return False
    a, b, c, d, m = found
    return tuple(taps) in (found, (b, a, d, c, m))


def is_joining(value):
    """Whether any value has the form of a joining."""
    return has_length(value, 3) and is_word(value[0]) and is_below(value[1], 200) and is_below(value[2], 200)


def are_same_parts(one, other):
    """Whether two parts of trees are the same, row by row."""
    first = read_form(one)
    second = read_form(other)
    return (first.words, first.levers, first.above) == (second.words, second.levers, second.above)


def tree_holds(net, tree, taps, steps):
    """Whether any values tell the net's tree, the taps for which its levers stand, and how they are joined."""
    left = left_by(net, ())
    whole = told_tree(tree)
    if left[0] == "lamp" or whole is None or not is_sequence(taps) or not is_sequence(steps):
        return False
    if not all([is_below(tap, len(net.taps)) for tap in taps]) or tuple(taps) != left[2]:
        return False
    reducing = Reducing(left[1])
    for step in steps:
        if not is_joining(step) or step[1] >= step[2] or not reducing.join_taps(step[0], step[1], step[2]):
            return False
    part = reducing.whole_part()
    return part is not None and are_same_parts(part, whole)


def net_holds(net, value):
    """Whether any value is a paper of `net_paper` for the net."""
    if has_length(value, 2) and value[0] == "lamp":
        return is_below(value[1], 1) and len(needed_taps(net)) == 0
    if has_length(value, 4) and value[0] == "tree":
        return tree_holds(net, value[1], value[2], value[3])
    if has_length(value, 3) and value[0] == "bridge":
        return bridge_holds(net, value[1], value[2])
    return False


def side_levers(part):
    """Of a tall part a lever each of two parts of its first knot, and one of its first other part."""
    at = [is_sequence(inner) for inner in part[1]].index(True)
    inner = part[1][at][1]
    other = part[1][1 if at == 0 else 0]
    return [part_levers(inner[0])[0], part_levers(inner[1])[0], part_levers(other)[0]]


def fork_paper(tree, taps):
    """("row", lot, taps) or ("side", lot, taps) for a net with a tree that is not honest."""
    place, pair = tall_place(tree)
    knot = part_at(tree, place)
    levers = [lever for rank in pair for lever in side_levers(knot[1][rank])]
    walk = tree_walk(tree)
    setting = filled_setting(walk, lever_bits(levers), 0, walk.many)
    lot = [(taps[lever], stands) for lever, stands in enumerate(setting) if lever not in levers]
    return ("row" if knot[0] == "all" else "side", tuple(lot), tuple([taps[lever] for lever in levers]))


def three_paper(net):
    """None for an honest net, else one of three nets that a lot leaves of it."""
    if len(needed_taps(net)) == 0:
        return None
    found = net_tree(net)
    if found is None:
        return bridge_paper(net)
    if is_honest(found[0]):
        return None
    return fork_paper(found[0], found[1])


def fork_side(outer, inner, taps):
    """A half of a row or a side: the first two joined by one word, the third one by the other."""
    one, two, three = taps
    return joined(inner, (joined(outer, (one, two)), three))


def fork_holds(net, word, lot, taps):
    """Whether any values tell a row, with the word "all", or a side of the net."""
    left = left_told(net, lot, taps, 6)
    if left is None:
        return False
    levers = [left[2].index(tap) for tap in taps]
    inner = "any" if word == "all" else "all"
    halves = (fork_side(word, inner, levers[:3]), fork_side(word, inner, levers[3:]))
    return reduced(left).whole_part() == joined(word, halves)


def three_holds(net, value):
    """Whether any value tells a bridge, a row or a side of the net."""
    if not has_length(value, 3):
        return False
    if value[0] == "bridge":
        return bridge_holds(net, value[1], value[2])
    if value[0] == "row":
        return fork_holds(net, "all", value[1], value[2])
    if value[0] == "side":
        return fork_holds(net, "any", value[1], value[2])
    return False


def least_dead(net):
    """How many taps the least lot has that some list that clears all taps that matter lets by, or None."""
    paper = net_tree(net)
    if paper is None:
        return 2 if len(needed_taps(net)) > 0 else None
    return None if is_honest(paper[0]) else 4
