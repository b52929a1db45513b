"""Levers that, held at a place, leave others without any say."""

from deadlevers.masks import bits_number, lit_mask, low_mask, up_mask
from deadlevers.rising import check_rising
from deadlevers.values import check_lever, check_place


def killings(table):
    """By lever a pair: those that it kills at 0, and at 1; of a rising box."""
    many = table.levers
    mask = bits_number(table.lamps)
    hangs = [lit_mask(mask, lever, many) for lever in range(many)]
    found = []
    for lever in range(many):
        others = [other for other in range(many) if other != lever]
        low = low_mask(lever, many)
        up = up_mask(lever, many)
        at_low = tuple([other for other in others if hangs[other] & low == 0])
        found.append((at_low, tuple([other for other in others if hangs[other] & up == 0])))
    return tuple(found)


def killed_levers(table, lever, place):
    """The levers that a lever kills at a place."""
    check_rising(table)
    check_lever(lever, table.levers)
    check_place(place)
    return killings(table)[lever][place]


def all_killings(table):
    """By lever a pair: those that it kills at 0, and at 1."""
    check_rising(table)
    return killings(table)


def idlers(table):
    """The levers that kill nobody; of a rising box."""
    found = killings(table)
    return tuple([lever for lever in range(table.levers) if found[lever] == ((), ())])


def idle_killers(table):
    """The levers that kill nobody."""
    check_rising(table)
    return idlers(table)
