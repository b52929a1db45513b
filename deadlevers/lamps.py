"""Deaths in doubt, and lamps at knots: when each lot in doubt is shown by what shows each death."""

from deadlevers.columns import full_column, hung_columns, lamp_columns, list_columns
from deadlevers.errors import Refused
from deadlevers.lists import are_doubts
from deadlevers.stories import broken_columns, story_paper, told_story
from deadlevers.trees import check_deaths, check_list, check_setting
from deadlevers.twoways import TwoWays
from deadlevers.walks import knot_rows, row_place, tree_walk
from deadlevers.witness import Witness, all_deaths


def check_lamps(walk, lamps):
    """The rows of any value that is places of lamps; else Refused."""
    rows = knot_rows(walk, lamps)
    if rows is None or 0 in rows:
        raise Refused(lamps)
    return rows


def check_doubts(walk, doubts):
    """Any value that tells deaths in doubt, None for all, as tuples; else Refused."""
    if doubts is None:
        return all_deaths(walk.many)
    if not are_doubts(doubts, walk.many):
        raise Refused(doubts)
    return [tuple(death) for death in doubts]


def lamp_values(tree, lamps, setting, lot=()):
    """The lamps at a setting, the root's first, with a lot dead, perhaps an empty one."""
    walk = tree_walk(tree)
    rows = check_lamps(walk, lamps)
    places = check_setting(setting, walk.many)
    lit = lamp_columns(walk, broken_columns(places, check_deaths(lot, walk.many), full_column(1)))
    return tuple([lit[row] for row in [0] + rows])


def cleared_by_lamps(walk, rows, settings):
    """By death whether what is a list shows it by lamps at some rows: the lever hung, at the other place."""
    full = full_column(len(settings))
    columns = list_columns(settings, walk.many)
    hung = hung_columns(walk, lamp_columns(walk, columns), full, tuple(rows))
    shown = {}
    for lever in range(walk.many):
        hanging = hung[walk.rows[lever]]
        shown[(lever, 0)] = hanging & columns[lever] != 0
        shown[(lever, 1)] = hanging & ~columns[lever] != 0
    return shown


def lamp_clears(tree, lamps, settings):
    """The levers up, and those down, on which the lamp nearest above hangs at some setting of a list."""
    walk = tree_walk(tree)
    rows = check_lamps(walk, lamps)
    shown = cleared_by_lamps(walk, rows, check_list(settings, walk.many))
    up = tuple([lever for lever in range(walk.many) if shown[(lever, 0)]])
    return (up, tuple([lever for lever in range(walk.many) if shown[(lever, 1)]]))


def two_ways(tree, doubts, lamps):
    """What is seen of the parts of a tree, of any values that tell deaths in doubt and places of lamps."""
    walk = tree_walk(tree)
    told = check_doubts(walk, doubts)
    return TwoWays(walk, told, check_lamps(walk, lamps))


def doubt_paper(tree, *, doubts=None, lamps=()):
    """None if it is sure, else ("doubt", place, (i, j)): the first knot with two parts that are two way."""
    ways = two_ways(tree, doubts, lamps)
    fault = ways.fault()
    if fault is None:
        return None
    row, (part, other) = fault
    return ("doubt", row_place(ways.walk, row), (ways.walk.ranks[part], ways.walk.ranks[other]))


def is_sure(tree, *, doubts=None, lamps=()):
    """Whether each list that shows all deaths in doubt by lamps shows every lot in doubt."""
    return two_ways(tree, doubts, lamps).fault() is None


def doubt_story(tree, *, doubts=None, lamps=()):
    """None if it is sure, else a list that shows all deaths in doubt by lamps, and a lot of four that it lets by."""
    ways = two_ways(tree, doubts, lamps)
    fault = ways.fault()
    if fault is None:
        return None
    row, (part, other) = fault
    word = ways.walk.words[row]
    lot = sorted(ways.pair_lot(part, word) + ways.pair_lot(other, word))
    witness = Witness(ways.walk, lot, list(ways.lamps))
    return story_paper(witness.all_clearing(list(ways.doubts)), lot)


def doubt_holds(tree, value, *, doubts=None, lamps=()):
    """Whether any value tells a list that shows all deaths in doubt by lamps, and a lot in doubt that it lets by."""
    walk = tree_walk(tree)
    told = check_doubts(walk, doubts)
    rows = check_lamps(walk, lamps)
    found = told_story(value, walk.many)
    if found is None:
        return False
    settings, lot = found
    shown = cleared_by_lamps(walk, rows, settings)
    if not all([shown[death] for death in told]) or not all([death in told for death in lot]):
        return False
    columns = list_columns(settings, walk.many)
    sound = lamp_columns(walk, columns)
    broken = lamp_columns(walk, broken_columns(columns, lot, full_column(len(settings))))
    return all([sound[row] == broken[row] for row in [0] + rows])
