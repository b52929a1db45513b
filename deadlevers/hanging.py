"""On which levers the lamp hangs, and what a list of settings clears."""

from deadlevers.columns import clear_columns, filled_setting, hung_columns, lamp_columns
from deadlevers.errors import Refused
from deadlevers.tables import setting_number
from deadlevers.trees import check_list, check_setting, first_wrong_place
from deadlevers.values import are_ascending, check_place, has_length, is_below
from deadlevers.walks import levers_by_row, tree_walk

# By place the word of the knots at which levers part that no setting clears together in it.
BARRING_WORDS = ("all", "any")


def hung_levers(tree, setting):
    """The levers on which the lamp of a tree hangs at a setting."""
    walk = tree_walk(tree)
    places = check_setting(setting, walk.many)
    hung = hung_columns(walk, lamp_columns(walk, places), 1)
    return tuple([lever for lever in range(walk.many) if hung[walk.rows[lever]] == 1])


def table_hung(table, setting):
    """The levers on which the lamp of a table hangs at a setting."""
    number = setting_number(check_setting(setting, table.levers))
    lamp = table.lamps[number]
    turned = [table.lamps[number ^ (1 << lever)] for lever in range(table.levers)]
    return tuple([lever for lever in range(table.levers) if turned[lever] != lamp])


def list_clears(tree, settings):
    """By lever a pair: at which settings of a list it is cleared down, and up."""
    walk = tree_walk(tree)
    return clear_columns(walk, check_list(settings, walk.many))


def cleared_levers(tree, settings):
    """The levers that a list clears up, those that it clears down."""
    clears = list_clears(tree, settings)
    up = [lever for lever, pair in enumerate(clears) if pair[1] != 0]
    down = [lever for lever, pair in enumerate(clears) if pair[0] != 0]
    return (tuple(up), tuple(down))


def uncleared(tree, settings):
    """The pairs (lever, place) in which a list does not clear the lever."""
    clears = list_clears(tree, settings)
    pairs = [(lever, place) for lever in range(len(clears)) for place in (0, 1)]
    return tuple([(lever, place) for lever, place in pairs if clears[lever][place] == 0])


def is_clearing(tree, settings):
    """Whether a list clears each lever up and down."""
    return all([down != 0 and up != 0 for down, up in list_clears(tree, settings)])


def barred_pair(walk, levers, place):
    """The first pair of some levers that no setting clears together in a place, or None."""
    inner = {lever: True for lever in levers}
    by_row = levers_by_row(walk)
    found = []
    for row in range(len(by_row)):
        if walk.words[row] == BARRING_WORDS[place]:
            parts = [[lever for lever in by_row[part] if lever in inner] for part in walk.parts[row]]
            # The first pair of a knot has its least two levers of unlike parts.
            least = sorted([min(part) for part in parts if part])
            if len(least) > 1:
                found.append((least[0], least[1]))
    if not found:
        return None
    return min(found)


def joint_question(tree, levers, place):
    """The walk of the tree, behind the checks of what is asked of it."""
    walk = tree_walk(tree)
    if not are_ascending(levers, walk.many) or len(levers) == 0:
        raise Refused(levers)
    check_place(place)
    return walk


def lever_bits(levers):
    """Levers as an integer, a bit each."""
    bits = 0
    for lever in levers:
        bits |= 1 << lever
    return bits


def joint_paper(tree, levers, place):
    """A setting that clears some levers together in a place, or two of them that none clears so."""
    walk = joint_question(tree, levers, place)
    pair = barred_pair(walk, levers, place)
    if pair is not None:
        return ("pair", pair)
    return ("setting", filled_setting(walk, lever_bits(levers), place, walk.many))


def clears_all(walk, levers, place, setting):
    """Whether a setting clears all these levers in a place."""
    clears = clear_columns(walk, [setting])
    return all([clears[lever][place] == 1 for lever in levers])


def bars_pair(walk, levers, place, pair):
    """Whether any value is a pair of these levers that no setting clears together in a place."""
    if not has_length(pair, 2) or not all([is_below(lever, walk.many) for lever in pair]):
        return False
    one, other = pair
    if one not in levers or other not in levers or one >= other:
        return False
    return barred_pair(walk, pair, place) is not None


def joint_holds(tree, levers, place, value):
    """Whether any value tells such a setting, or two such levers."""
    walk = joint_question(tree, levers, place)
    if not has_length(value, 2):
        return False
    if value[0] == "setting" and first_wrong_place(value[1], walk.many) is None:
        return clears_all(walk, levers, place, value[1])
    if value[0] == "pair":
        return bars_pair(walk, levers, place, value[1])
    return False
