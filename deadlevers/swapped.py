"""Trees in which some knots have the other word, and some levers are dead."""

from deadlevers.chains import exchanged_story
from deadlevers.columns import clear_columns, full_column, knot_column, lamp_columns, list_columns
from deadlevers.errors import BadList, BadLot, Refused
from deadlevers.stories import broken_columns
from deadlevers.trees import check_deaths, check_list, check_setting
from deadlevers.values import has_length
from deadlevers.walks import inner_first, knot_rows, row_place, tree_walk


def exchanged_column(walk, rows, columns):
    """The column of the lamp of a tree with some knots exchanged, from those of the levers."""
    lamps = [0] * len(walk.words)
    for row in inner_first(walk):
        word = walk.words[row]
        if row in rows:
            word = "any" if word == "all" else "all"
        if walk.parts[row]:
            lamps[row] = knot_column(word, [lamps[part] for part in walk.parts[row]])
        else:
            lamps[row] = columns[walk.levers[row]]
    return lamps[0]


def swapped_lamp(tree, lot, places, setting):
    """The lamp with a lot dead, perhaps an empty one, and the knots at some places exchanged."""
    walk = tree_walk(tree)
    dead = check_deaths(lot, walk.many)
    rows = knot_rows(walk, places)
    if rows is None:
        raise Refused(places)
    columns = broken_columns(check_setting(setting, walk.many), dead, full_column(1))
    return exchanged_column(walk, rows, columns)


def swap_story(tree):
    """None for a chain, else a clearing list, a lot and the place of one exchanged knot that it lets by."""
    found = exchanged_story(tree)
    if found is None:
        return None
    settings, row, lot = found
    return ("swap", settings, lot, (row_place(tree_walk(tree), row),))


def lets_swap_by(walk, settings, lot, rows):
    """Whether a list is clearing, and all its lamps are right with a lot dead and some knots exchanged."""
    if not all([down != 0 and up != 0 for down, up in clear_columns(walk, settings)]):
        return False
    columns = list_columns(settings, walk.many)
    broken = broken_columns(columns, lot, full_column(len(settings)))
    return exchanged_column(walk, rows, broken) == lamp_columns(walk, columns)[0]


def swap_holds(tree, value):
    """Whether any value tells a clearing list and a fault that it lets by."""
    walk = tree_walk(tree)
    if not has_length(value, 4) or value[0] != "swap":
        return False
    try:
        settings = check_list(value[1], walk.many)
        lot = check_deaths(value[2], walk.many)
    except BadList:
        return False
    except BadLot:
        return False
    rows = knot_rows(walk, value[3])
    if rows is None or len(lot) + len(rows) == 0:
        return False
    return lets_swap_by(walk, settings, lot, rows)
