"""The fewest trials of nets, pairs of taps that may hide each other, and what makes a net honest."""

from itertools import combinations

from deadlevers.cheap import least_cover
from deadlevers.court import is_honest
from deadlevers.errors import Refused, TooGreat
from deadlevers.joining import reduced
from deadlevers.nets import left_by
from deadlevers.netsides import OrderedNet, all_cuts, all_ways

MOST_MENDED = 12


def way_settings(ways, many):
    """The settings at which just the taps of a way are up."""
    return [tuple([1 if tap in way else 0 for tap in range(many)]) for way in ways]


def cut_settings(cuts, many):
    """The settings at which just the taps of a cut are down."""
    return [tuple([0 if tap in cut else 1 for tap in range(many)]) for cut in cuts]


def net_list(net):
    """A list that clears all taps that matter, of at most twice as many settings."""
    left = left_by(net, ())
    if left[0] == "lamp":
        return ()
    _, inner, taps = left
    ordered = OrderedNet(inner)
    ways = [[taps[tap] for tap in way] for way in ordered.found_ways()]
    cuts = [[taps[tap] for tap in cut] for cut in ordered.found_cuts()]
    return tuple(way_settings(ways, len(net.taps)) + cut_settings(cuts, len(net.taps)))


def small_left(net):
    """The (net, taps) of the taps that matter, None for none; TooGreat if they are too many."""
    left = left_by(net, ())
    if left[0] == "lamp":
        return None
    if len(left[2]) > MOST_MENDED:
        raise TooGreat(MOST_MENDED)
    return (left[1], left[2])


def are_both_in(lots, one, other):
    """Whether two taps are in some of the lots."""
    return any([one in lot and other in lot for lot in lots])


def hiding_pairs(net):
    """The pairs of taps that some way passes both, and that some least cut holds both."""
    left = small_left(net)
    if left is None:
        return ()
    inner, taps = left
    ways = all_ways(inner)
    cuts = all_cuts(inner)
    pairs = [(one, other) for other in range(len(taps)) for one in range(other)]
    found = [pair for pair in pairs if are_both_in(ways, pair[0], pair[1]) and are_both_in(cuts, pair[0], pair[1])]
    return tuple(sorted([(taps[one], taps[other]) for one, other in found]))


def fewest_lots(lots, taps):
    """The fewest of some lots that together hold all taps that matter, told by the net's own numbers."""
    cover = least_cover(lots, len(taps))
    return tuple(sorted([tuple([taps[tap] for tap in lots[at]]) for at in cover]))


def fewest_ways(net):
    """The fewest ways that together pass all taps that matter."""
    left = small_left(net)
    return () if left is None else fewest_lots(all_ways(left[0]), left[1])


def fewest_cuts(net):
    """The fewest least cuts that together hold all taps that matter."""
    left = small_left(net)
    return () if left is None else fewest_lots(all_cuts(left[0]), left[1])


def least_net_list(net):
    """A list with the fewest settings that clears all taps that matter."""
    many = len(net.taps)
    return tuple(way_settings(fewest_ways(net), many) + cut_settings(fewest_cuts(net), many))


def is_mended(net, lot):
    """Whether a lot, perhaps empty, leaves an honest net in which some tap matters."""
    left = left_by(net, lot)
    if left[0] == "lamp":
        return False
    tree = reduced(left).whole_part()
    return tree is not None and is_honest(tree)


def least_mending(net, place):
    """The fewest taps that matter, of these the least, that mend a net if they are stuck at a place."""
    left = small_left(net)
    if left is None:
        raise Refused(net)
    inner, taps = left
    for count in range(len(taps)):
        for chosen in combinations(list(range(len(taps))), count):
            if is_mended(inner, [(tap, place) for tap in chosen]):
                return tuple([taps[tap] for tap in chosen])
    return None


def least_taken(net):
    """The fewest taps to be taken out so that an honest net is left."""
    return least_mending(net, 0)


def least_welded(net):
    """The fewest taps to be stuck up so that an honest net is left."""
    return least_mending(net, 1)
