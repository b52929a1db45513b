"""The fewest trials of rising boxes, and scales, which need no more than four."""

from deadlevers.errors import Refused, TooGreat
from deadlevers.halves import HalfCounts, are_weights, is_half, other_levers
from deadlevers.hanging import lever_bits
from deadlevers.masks import number_bits
from deadlevers.rising import check_rising
from deadlevers.tables import MOST_TABLE_LEVERS, Table, number_setting
from deadlevers.trees import check_setting
from deadlevers.values import is_below

FEWEST_EVEN = 4
MOST_EVEN = 200


def smaller_first(lots):
    """Lots in the order of their sizes, then ascending."""
    return tuple([lot for _, lot in sorted([(len(own), own) for own in lots])])


def place_levers(number, place, many):
    """The levers at a place in the setting with a number."""
    return tuple([lever for lever, stands in enumerate(number_bits(number, many)) if stands == place])


def edge_lots(table, place):
    """The least lots of levers that, alone at a place, give the lamp that all give there; of a rising box."""
    lots = []
    for number, lamp in enumerate(table.lamps):
        levers = place_levers(number, place, table.levers)
        if lamp == place and not any([table.lamps[number ^ (1 << lever)] == place for lever in levers]):
            lots.append(levers)
    return smaller_first(lots)


def carriers(table):
    """The least lots of levers that light the lamp when they alone are up."""
    check_rising(table)
    return edge_lots(table, 1)


def stoppers(table):
    """The least lots of levers that put the lamp out when they alone are down."""
    check_rising(table)
    return edge_lots(table, 0)


def shared_sizes(table):
    """The least and the greatest number of levers that a carrier and a stopper share."""
    check_rising(table)
    counts = [sum(number_bits(number, table.levers)) for number in range(len(table.lamps))]
    lit = [lever_bits(lot) for lot in edge_lots(table, 1)]
    out = [lever_bits(lot) for lot in edge_lots(table, 0)]
    shared = [counts[one & other] for one in lit for other in out]
    return (min(shared), max(shared))


def cover_counts(lots, levers):
    """By lot, and behind the last one, by levers as bits: how few lots from it on hold them; None if they do not."""
    counts = [0] + [None] * ((1 << levers) - 1)
    found = [counts]
    for lot in lots[::-1]:
        behind = found[-1]
        counts = list(behind)
        for missing in range(1, len(counts)):
            rest = behind[missing & ~lot]
            if rest is not None and (counts[missing] is None or rest + 1 < counts[missing]):
                counts[missing] = rest + 1
        found.append(counts)
    return found[::-1]


def least_cover(lots, levers):
    """The least of the shortest ascending tuples of indexes whose lots hold all levers, or None."""
    bits = [lever_bits(lot) for lot in lots]
    counts = cover_counts(bits, levers)
    missing = (1 << levers) - 1
    if counts[0][missing] is None:
        return None
    chosen = []
    for at, lot in enumerate(bits):
        rest = counts[at + 1][missing & ~lot]
        if missing and rest is not None and rest + 1 == counts[at][missing]:
            chosen.append(at)
            missing &= ~lot
    return tuple(chosen)


def lot_setting(lot, place, many):
    """The setting with just the levers of a lot at a place."""
    return tuple([place if lever in lot else 1 - place for lever in range(many)])


def fewest_trials(table):
    """The fewest burning settings that clear all levers up, and the fewest dark ones that clear all down."""
    check_rising(table)
    found = []
    for place in (1, 0):
        lots = edge_lots(table, place)
        cover = least_cover(lots, table.levers)
        found.append(tuple([lot_setting(lots[at], place, table.levers) for at in cover]))
    return tuple(found)


def check_weights(weights):
    """Raise Refused for any value that is no weights of a scale."""
    if not are_weights(weights):
        raise Refused(weights)


def check_half(lot, weights):
    """Raise Refused for any value that is no lot of half the weight."""
    if not is_half(lot, weights):
        raise Refused(lot)


class Scale:
    """The box whose lamp burns if more than half the weight is up; if just half, for a lot and its rest alone."""

    def __init__(self, weights, lot):
        check_weights(weights)
        check_half(lot, weights)
        self.weights = tuple(weights)
        self.lot = tuple(lot)
        self.half = sum(weights) // 2

    def __eq__(self, other):
        return isinstance(other, Scale) and self.weights == other.weights and self.lot == other.lot


def rest_lot(weights, lot):
    """The levers that are not in a lot of half the weight."""
    check_weights(weights)
    check_half(lot, weights)
    return other_levers(lot, len(weights))


def half_number(weights):
    """How many lots have half the weight."""
    check_weights(weights)
    return HalfCounts(weights).total()


def half_lot(weights, number):
    """The lot of half the weight with a number, of all as ascending tuples."""
    check_weights(weights)
    halves = HalfCounts(weights)
    if not is_below(number, halves.total()):
        raise Refused(number)
    return halves.numbered(number)


def half_place(weights, lot):
    """The number of a lot of half the weight."""
    check_weights(weights)
    check_half(lot, weights)
    return HalfCounts(weights).rank(lot)


def lamp_of_scale(scale, setting):
    """The lamp at what is a setting."""
    up = tuple([lever for lever, place in enumerate(setting) if place == 1])
    weight = sum([scale.weights[lever] for lever in up])
    if weight == scale.half:
        return 1 if up in (scale.lot, other_levers(scale.lot, len(setting))) else 0
    return 1 if weight > scale.half else 0


def scale_lamp(scale, setting):
    """The lamp of a scale at a setting."""
    return lamp_of_scale(scale, check_setting(setting, len(scale.weights)))


def third_halves(scale):
    """Of the first three lots of half the weight those that are neither the scale's nor its rest."""
    own = (scale.lot, other_levers(scale.lot, len(scale.weights)))
    halves = HalfCounts(scale.weights)
    lots = [halves.numbered(number) for number in range(min(3, halves.total()))]
    return [lot for lot in lots if lot not in own]


def other_half(scale):
    """The first lot of half the weight that is neither the scale's nor its rest, or None."""
    lots = third_halves(scale)
    return lots[0] if lots else None


def scale_list(scale, other):
    """The scale's lot up alone, its rest, another lot of half the weight, and that one's rest."""
    many = len(scale.weights)
    check_half(other, scale.weights)
    rest = other_levers(scale.lot, many)
    if tuple(other) in (scale.lot, rest):
        raise Refused(other)
    lots = (scale.lot, rest, tuple(other), other_levers(other, many))
    return tuple([lot_setting(lot, 1, many) for lot in lots])


def scale_table(scale):
    """The table of a scale."""
    many = len(scale.weights)
    if many > MOST_TABLE_LEVERS:
        raise TooGreat(MOST_TABLE_LEVERS)
    return Table([lamp_of_scale(scale, number_setting(number, many)) for number in range(1 << many)])


def even_scale(levers):
    """The scale with weights 1, the first one 2 if the levers are odd in number, and the first lot."""
    if not is_below(levers, MOST_EVEN + 1) or levers < FEWEST_EVEN:
        raise Refused(levers)
    weights = (1 + levers % 2,) + (1,) * (levers - 1)
    return Scale(weights, HalfCounts(weights).numbered(0))
