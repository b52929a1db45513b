"""Wishes for clearing, what a list lacks, what can be left out of it, and drawn settings."""

from deadlevers.burning import FREE, product_of, ways_by_row
from deadlevers.columns import clear_columns, filled_setting, full_column
from deadlevers.covers import CoverSearch, cleared_columns, kept_bits, needed_bits, setting_covers
from deadlevers.errors import Refused, TooGreat
from deadlevers.hanging import lever_bits, list_clears
from deadlevers.trees import MOST_SETTINGS, check_list
from deadlevers.values import check_lever, check_place, has_length, is_below
from deadlevers.walks import inner_first, tree_walk
from deadlevers.wishes import dearest_levers, rows_wished, wish_settings

MOST_WISHES = 1000000


def wish_question(tree, wishes, place):
    """The walk of the tree, behind the checks of what is asked of it."""
    walk = tree_walk(tree)
    if not has_length(wishes, walk.many):
        raise Refused(wishes)
    if not all([is_below(wish, MOST_WISHES + 1) for wish in wishes]):
        raise Refused(wishes)
    check_place(place)
    return walk


def wish_count(tree, wishes, place):
    """The fewest settings that clear each lever in a place as often as it is wished."""
    walk = wish_question(tree, wishes, place)
    return rows_wished(walk, wishes, place)[0]


def dear_levers(tree, wishes, place):
    """Levers whose wishes come to `wish_count`, and of which no setting clears two."""
    walk = wish_question(tree, wishes, place)
    return tuple(dearest_levers(walk, wishes, place))


def wish_list(tree, wishes, place):
    """The fewest settings that clear each lever in a place as often as it is wished."""
    walk = wish_question(tree, wishes, place)
    if rows_wished(walk, wishes, place)[0] > MOST_SETTINGS:
        raise TooGreat(MOST_SETTINGS)
    return wish_settings(walk, wishes, place)


def best_setting(tree, place):
    """A setting that clears in a place as many levers as one can."""
    walk = tree_walk(tree)
    check_place(place)
    # Levers of which no two can be cleared together in the other place can all be in this one.
    levers = dearest_levers(walk, [1] * walk.many, 1 - place)
    return filled_setting(walk, lever_bits(levers), place, walk.many)


def open_wishes(clears, place):
    """By lever 1 if it is not cleared in a place, else 0."""
    return [1 if pair[place] == 0 else 0 for pair in clears]


def lacking(tree, settings):
    """The fewest burning settings, and dark ones, that make the list clearing if they are added."""
    walk = tree_walk(tree)
    clears = list_clears(tree, settings)
    up = rows_wished(walk, open_wishes(clears, 1), 1)[0]
    return (up, rows_wished(walk, open_wishes(clears, 0), 0)[0])


def completed(tree, settings):
    """The settings of the list, and behind them as few as make it clearing."""
    walk = tree_walk(tree)
    told = check_list(settings, walk.many)
    clears = clear_columns(walk, told)
    ups = wish_settings(walk, open_wishes(clears, 1), 1)
    return told + ups + wish_settings(walk, open_wishes(clears, 0), 0)


def bit_indexes(bits):
    """The indexes of its bits."""
    return tuple([at for at in range(bits.bit_length()) if bits >> at & 1])


def spare_settings(tree, settings):
    """The indexes of the settings that can be left out, each by itself."""
    columns = cleared_columns(list_clears(tree, settings))
    return bit_indexes(full_column(len(settings)) ^ needed_bits(columns))


def kept_settings(tree, settings):
    """The indexes that stay if settings are left out, from the last one to the first."""
    columns = cleared_columns(list_clears(tree, settings))
    return bit_indexes(kept_bits(columns, len(settings)))


def shortest(tree, settings, *, most):
    """The least of the shortest tuples of indexes whose settings clear all that the list clears."""
    columns = cleared_columns(list_clears(tree, settings))
    return CoverSearch(setting_covers(columns, len(settings)), most).answer()


def times(one, other):
    """The product of two polynomials, told by their numbers."""
    made = [0] * (len(one) + len(other) - 1)
    for at, number in enumerate(one):
        for beside, factor in enumerate(other):
            made[at + beside] += number * factor
    return made


def plus(one, other):
    """The sum of two polynomials."""
    longer, shorter = (one, other) if len(one) >= len(other) else (other, one)
    made = list(longer)
    for at, number in enumerate(shorter):
        made[at] += number
    return made


def knot_hangs(same, unlike):
    """How often a knot hangs on so many levers, from its parts: a pair like that of the parts.

    `same` are the polynomials of the parts for the lamp that all parts must have for the knot to
    have it, `unlike` those for the other one. The knot hangs on levers of a part with the other
    lamp just if no second part has it.
    """
    all_same = [1]
    for numbers in same:
        all_same = times(all_same, numbers)
    totals = [sum(numbers) for numbers in same]
    whole = product_of([sum(one) + sum(other) for one, other in zip(same, unlike)])
    one_unlike = [0]
    for total, numbers in zip(totals, unlike):
        others = product_of(totals) // total
        one_unlike = plus(one_unlike, [number * others for number in numbers])
    rest = whole - sum(all_same) - sum(one_unlike)
    return (all_same, plus(one_unlike, [rest]))


def hung_numbers(tree):
    """(dark, burning): by j how many settings hang on just j levers."""
    walk = tree_walk(tree)
    found = [([0, 1], [0, 1])] * len(walk.words)
    for row in inner_first(walk):
        if walk.parts[row]:
            dark = [found[part][0] for part in walk.parts[row]]
            burning = [found[part][1] for part in walk.parts[row]]
            if walk.words[row] == "all":
                burns, darkens = knot_hangs(burning, dark)
            else:
                darkens, burns = knot_hangs(dark, burning)
            found[row] = (darkens, burns)
    return (tuple(found[0][0]), tuple(found[0][1]))


def hung_count(tree, lever):
    """How many settings with a burning lamp hang on a lever."""
    walk = tree_walk(tree)
    check_lever(lever, walk.many)
    ways = ways_by_row(walk, [FREE] * walk.many)
    count = 1
    row = walk.rows[lever]
    while walk.above[row] >= 0:
        above = walk.above[row]
        kept = 1 if walk.words[above] == "all" else 0
        count = count * product_of([ways[part][kept] for part in walk.parts[above] if part != row])
        row = above
    return count
