"""Lists that let just the lots by that make the same box as a sharp lot.

Settings are integers with a bit by lever. At all of them up parts burn and down parts are dark, but
at those made for pairs: there an up part is dark, a down part burns, and they hide each other.
"""

from deadlevers.hanging import lever_bits
from deadlevers.holding import live_levers_of
from deadlevers.lists import all_listed, doubts_listed
from deadlevers.walks import levers_by_row, way_down


def sharp_doubts(dead):
    """The deaths that are in doubt where all dead parts are as they are held."""
    live = live_levers_of(dead.walk, dead.held, dead.rows)
    doubts = [(lever, place) for lever in live for place in (0, 1)]
    levers = levers_by_row(dead.walk)
    for row in dead.rows:
        doubts.extend([(lever, 1 - dead.held[row]) for lever in levers[row]])
    return sorted(doubts)


def leads(dead, one, other):
    """Whether, with the first of two dead parts held, the second one must be, too."""
    return dead.does_meet(one, other, dead.hiding_word(one))


def linked_pairs(dead):
    """Pairs (up part, down part) by which each dead part leads to each other one, round about."""
    pairs = {}
    for forward in (True, False):
        reached = {0: True}
        waiting = [0]
        while waiting:
            one = waiting.pop()
            for other in range(len(dead.rows)):
                if other not in reached and (leads(dead, one, other) if forward else leads(dead, other, one)):
                    reached[other] = True
                    waiting.append(other)
                    pairs[(one, other) if dead.value(one) == 1 else (other, one)] = True
    return list(pairs)


def around_pair(dead, listed, one, other):
    """The setting of the levers outside of two dead parts at which the lamp is that of their knot with both."""
    walk = dead.walk
    ends = (dead.rows[one], dead.rows[other])
    ways = {row: True for end in ends for row in way_down(walk, end)}
    setting = 0
    for row in ways:
        for part in walk.parts[row] if row not in ends else []:
            if part not in ways:
                ups, downs = listed[part]
                setting |= ups[0] if walk.words[row] == "all" else downs[0]
    return setting


def pair_numbers(dead, listed):
    """The settings at which up parts are dark and down parts burn."""
    rows = dead.rows
    bits = [lever_bits(levers) for levers in levers_by_row(dead.walk)]
    full = all_listed(dead.walk, {})
    numbers = []
    for up, down in linked_pairs(dead):
        numbers.append(around_pair(dead, listed, up, down) | bits[rows[down]])
    for index, hider in enumerate(dead.hidden_by()):
        around = around_pair(dead, listed, index, hider)
        if dead.value(index) == 1:
            numbers.extend([around | low | bits[rows[hider]] for low in full[rows[index]][1]])
        else:
            numbers.extend([around | high for high in full[rows[index]][0]])
    return numbers


def sharp_numbers(dead):
    """Settings, each once, that let by just the lots that make the same box as a sharp one."""
    listed = doubts_listed(dead.walk, sharp_doubts(dead))
    ups, downs = listed[0]
    numbers = {number: True for number in ups + downs + pair_numbers(dead, listed)}
    return list(numbers)
