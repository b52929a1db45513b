"""Levers that kill each other: the lamp hears them through one knot alone."""

from deadlevers.errors import Refused, TooGreat
from deadlevers.killers import killings
from deadlevers.rising import check_rising
from deadlevers.tables import MOST_TABLE_LEVERS, Table
from deadlevers.values import check_lever, is_word

TWIN_WORDS = ("all", "any")


def twins_of(table):
    """All (one, other, word) of twins, one less than other; of a rising box."""
    found = killings(table)
    twins = []
    for one in range(table.levers):
        for other in range(one + 1, table.levers):
            for place, word in enumerate(TWIN_WORDS):
                if other in found[one][place] and one in found[other][place]:
                    twins.append((one, other, word))
    return tuple(twins)


def all_twins(table):
    """All (one, other, word) of twins, one less than other."""
    check_rising(table)
    return twins_of(table)


def with_one_for_both(table, one, other):
    """The table in which the first of two levers, the lesser, stands for both."""
    lamps = []
    for number in range(len(table.lamps) // 2):
        below = number & ((1 << other) - 1)
        beyond = number >> other << (other + 1)
        lamps.append(table.lamps[beyond | (number >> one & 1) << other | below])
    return Table(lamps)


def joined_twins(table, one, other):
    """The table in which the lesser of two twins stands for both."""
    check_rising(table)
    check_lever(one, table.levers)
    check_lever(other, table.levers)
    pair = (min(one, other), max(one, other))
    if pair not in [(first, second) for first, second, _ in twins_of(table)]:
        raise Refused((one, other))
    return with_one_for_both(table, pair[0], pair[1])


def split_lever(table, lever, word):
    """The table in which a lever and a new last one, joined by a word, stand for the lever."""
    check_rising(table)
    check_lever(lever, table.levers)
    if not is_word(word):
        raise Refused(word)
    if table.levers == MOST_TABLE_LEVERS:
        raise TooGreat(MOST_TABLE_LEVERS)
    bit = 1 << lever
    if word == "all":
        lower = [table.lamps[number & ~bit] for number in range(len(table.lamps))]
        return Table(lower + list(table.lamps))
    return Table(list(table.lamps) + [table.lamps[number | bit] for number in range(len(table.lamps))])
