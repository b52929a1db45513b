"""Nets: the lamp burns if water comes from end to end through taps that are open."""

from deadlevers.columns import full_column, list_columns
from deadlevers.errors import BadNet, TooGreat
from deadlevers.masks import number_bits, up_mask
from deadlevers.netways import found_cut, found_way, merged_nodes, passed_taps, reached_columns, tap_lists
from deadlevers.tables import MOST_TABLE_LEVERS, Table
from deadlevers.trees import broken_setting, check_list, check_lot, check_setting
from deadlevers.values import check_lever, has_length, is_below, is_sequence
from deadlevers.walks import MOST_LEVERS, tree_walk

MOST_NODES = 201


def is_tap(value, nodes):
    """Whether any value is a pair of unlike nodes."""
    return has_length(value, 2) and all([is_below(node, nodes) for node in value]) and value[0] != value[1]


class Net:
    """Nodes, of which 0 and 1 are the ends, and taps, pairs of unlike nodes."""

    def __init__(self, nodes, taps):
        if not is_below(nodes, MOST_NODES + 1) or nodes < 2:
            raise BadNet(-1)
        if not is_sequence(taps) or not 1 <= len(taps) <= MOST_LEVERS:
            raise BadNet(-1)
        for at, tap in enumerate(taps):
            if not is_tap(tap, nodes):
                raise BadNet(at)
        self.nodes = nodes
        self.taps = tuple([tuple(tap) for tap in taps])

    def __eq__(self, other):
        return isinstance(other, Net) and self.nodes == other.nodes and self.taps == other.taps


def all_beside(net):
    """By node of a net the (tap, node at the other end) of its taps."""
    return tap_lists(net.nodes, net.taps, list(range(len(net.taps))))


def net_lamp(net, setting):
    """The lamp at a setting."""
    return reached_columns(all_beside(net), 0, check_setting(setting, len(net.taps)), 1)[1]


def net_broken(net, lot, setting):
    """The lamp with a lot of dead taps at a setting."""
    dead = check_lot(lot, len(net.taps))
    return net_lamp(net, broken_setting(check_setting(setting, len(net.taps)), dead))


def net_hangs(net, columns, full):
    """By tap where the lamp hangs on it, from the columns of the taps."""
    beside = all_beside(net)
    ahead = reached_columns(beside, 0, columns, full)
    behind = reached_columns(beside, 1, columns, full)
    lamps = ahead[1]
    hangs = []
    for tap, (one, other) in enumerate(net.taps):
        links = ahead[one] & behind[other] | ahead[other] & behind[one]
        hanging = links & full & ~lamps & ~columns[tap]
        if lamps & columns[tap]:
            without = [0 if beside_tap == tap else column for beside_tap, column in enumerate(columns)]
            hanging |= lamps & columns[tap] & ~reached_columns(beside, 0, without, full)[1]
        hangs.append(hanging)
    return hangs


def net_hung(net, setting):
    """The taps on which the lamp hangs at a setting."""
    hangs = net_hangs(net, check_setting(setting, len(net.taps)), 1)
    return tuple([tap for tap, hanging in enumerate(hangs) if hanging])


def cleared_taps(net, settings):
    """The taps that a list clears up, those that it clears down."""
    told = check_list(settings, len(net.taps))
    columns = list_columns(told, len(net.taps))
    hangs = net_hangs(net, columns, full_column(len(told)))
    up = [tap for tap, hanging in enumerate(hangs) if hanging & columns[tap]]
    return (tuple(up), tuple([tap for tap, hanging in enumerate(hangs) if hanging & ~columns[tap]]))


def net_mask(net):
    """The lamps of a net with few taps at all settings, a bit each."""
    many = len(net.taps)
    columns = [up_mask(tap, many) for tap in range(many)]
    return reached_columns(all_beside(net), 0, columns, full_column(1 << many))[1]


def net_table(net):
    """The table of a net."""
    many = len(net.taps)
    if many > MOST_TABLE_LEVERS:
        raise TooGreat(MOST_TABLE_LEVERS)
    return Table(number_bits(net_mask(net), 1 << many))


def way_through(net, tap):
    """The taps of some way through a tap, in order, or None."""
    check_lever(tap, len(net.taps))
    way = found_way(net.nodes, net.taps, tap)
    return None if way is None else tuple(way)


def cut_through(net, tap):
    """The taps of some least cut with a tap, ascending, or None."""
    check_lever(tap, len(net.taps))
    way = found_way(net.nodes, net.taps, tap)
    if way is None:
        return None
    return tuple(found_cut(net.nodes, net.taps, way, tap))


def needed_taps(net):
    """The taps that some way passes."""
    return tuple(passed_taps(net.nodes, net.taps, list(range(len(net.taps)))))


def left_by(net, lot):
    """What is left of a net by some dead taps, perhaps none."""
    names = list(range(net.nodes))
    dead = {}
    for tap, place in lot:
        dead[tap] = True
        if place == 1:
            names = merged_nodes(names, net.taps[tap][0], net.taps[tap][1])
    if names[1] == 0:
        return ("lamp", 1)
    taps = [(names[one], names[other]) for one, other in net.taps]
    kept = [tap for tap, (one, other) in enumerate(taps) if tap not in dead and one != other]
    needed = passed_taps(net.nodes, taps, kept)
    if not needed:
        return ("lamp", 0)
    nodes = sorted(set([node for tap in needed for node in taps[tap]]))
    left = [(nodes.index(taps[tap][0]), nodes.index(taps[tap][1])) for tap in needed]
    return ("net", Net(len(nodes), left), tuple(needed))


def left_net(net, lot):
    """What a lot leaves: ("lamp", place), or ("net", net, taps)."""
    return left_by(net, check_lot(lot, len(net.taps)))


def tree_net(tree):
    """A net with the tree's lamp at each setting, its taps numbered as the levers."""
    walk = tree_walk(tree)
    ends = [(0, 1)] * len(walk.words)
    taps = [(0, 1)] * walk.many
    nodes = 2
    for row, parts in enumerate(walk.parts):
        if not parts:
            taps[walk.levers[row]] = ends[row]
        elif walk.words[row] == "any":
            for part in parts:
                ends[part] = ends[row]
        else:
            inner = list(range(nodes, nodes + len(parts) - 1))
            nodes += len(inner)
            steps = [ends[row][0]] + inner + [ends[row][1]]
            for part, one, other in zip(parts, steps, steps[1:]):
                ends[part] = (one, other)
    return Net(nodes, taps)
