"""Trees, settings, lists and lots."""

from deadlevers.columns import setting_lamp
from deadlevers.errors import BadList, BadLot, BadSetting, Refused
from deadlevers.values import check_lever, has_length, is_below, is_sequence
from deadlevers.walks import inner_first, row_at, row_parts, row_place, tree_walk

MOST_SETTINGS = 400


def is_flat(part):
    """Whether it is a knot whose parts are levers."""
    return is_sequence(part) and not any([is_sequence(inner) for inner in part[1]])


def is_tall(part):
    """Whether it is a knot of which some part is a knot."""
    return is_sequence(part) and any([is_sequence(inner) for inner in part[1]])


def part_levers(part):
    """Its levers, ascending."""
    levers = []
    waiting = [part]
    while waiting:
        item = waiting.pop()
        if is_sequence(item):
            waiting.extend(item[1])
        else:
            levers.append(item)
    return tuple(sorted(levers))


def by_least_levers(parts):
    """Parts with unlike levers, in the order in which they stand in a knot."""
    found = {part_levers(part)[0]: part for part in parts}
    return tuple([found[least] for least in sorted(found)])


def joined(word, parts):
    """The part of this word with these parts; one alone is itself."""
    if len(parts) == 1:
        return parts[0]
    taken = []
    for part in parts:
        if is_sequence(part) and part[0] == word:
            taken.extend(part[1])
        else:
            taken.append(part)
    return (word, by_least_levers(taken))


def check_tree(value):
    """Any value that is a tree, as tuples; else BadTree."""
    return row_parts(tree_walk(value))[0]


def tree_levers(tree):
    """How many levers it has."""
    return tree_walk(tree).many


def tree_knots(tree):
    """The places of all knots, ascending."""
    walk = tree_walk(tree)
    return tuple([row_place(walk, row) for row in range(len(walk.words)) if walk.parts[row]])


def part_at(tree, place):
    """The part at a place."""
    walk = tree_walk(tree)
    row = row_at(walk, place)
    if row < 0:
        raise Refused(place)
    return row_parts(walk)[row]


def lever_place(tree, lever):
    """The place of a lever."""
    walk = tree_walk(tree)
    check_lever(lever, walk.many)
    return row_place(walk, walk.rows[lever])


def mirror_tree(tree):
    """The tree with "any" for "all" and "all" for "any"."""
    walk = tree_walk(tree)
    made = list(walk.levers)
    for row in inner_first(walk):
        if walk.parts[row]:
            word = "any" if walk.words[row] == "all" else "all"
            made[row] = (word, tuple([made[part] for part in walk.parts[row]]))
    return made[0]


def are_all_levers(value, many):
    """Whether any value is a sequence of the levers below `many`, each once."""
    if not has_length(value, many) or not all([is_below(lever, many) for lever in value]):
        return False
    return len(set(value)) == many


def named_tree(tree, levers):
    """The tree with the lever levers[z] in the place of z."""
    walk = tree_walk(tree)
    if not are_all_levers(levers, walk.many):
        raise Refused(levers)
    made = [levers[lever] for lever in walk.levers]
    least = list(made)
    for row in inner_first(walk):
        if walk.parts[row]:
            found = {least[part]: made[part] for part in walk.parts[row]}
            least[row] = min(list(found))
            made[row] = (walk.words[row], tuple([found[first] for first in sorted(found)]))
    return made[0]


def first_wrong_place(value, many):
    """None if any value is a setting, else what BadSetting tells of it."""
    if not has_length(value, many):
        return -1
    for at, place in enumerate(value):
        if not is_below(place, 2):
            return at
    return None


def check_setting(value, many):
    """Any value that is a setting of `many` levers, as a tuple; else BadSetting."""
    at = first_wrong_place(value, many)
    if at is not None:
        raise BadSetting(at)
    return tuple(value)


def check_list(value, many):
    """Any value that is a list of settings of `many` levers, as tuples; else BadList."""
    if not is_sequence(value) or len(value) > MOST_SETTINGS:
        raise BadList(-1)
    for at, setting in enumerate(value):
        if first_wrong_place(setting, many) is not None:
            raise BadList(at)
    return tuple([tuple(setting) for setting in value])


def is_death(value, many):
    """Whether any value is a pair of a lever and a place."""
    return has_length(value, 2) and is_below(value[0], many) and is_below(value[1], 2)


def check_lot(value, many):
    """Any value that is a lot of `many` levers, as tuples; else BadLot."""
    if not is_sequence(value) or len(value) == 0:
        raise BadLot(-1)
    last = -1
    for at, death in enumerate(value):
        if not is_death(death, many) or death[0] <= last:
            raise BadLot(at)
        last = death[0]
    return tuple([tuple(death) for death in value])


def check_deaths(value, many):
    """Any value that is a lot, or an empty sequence, as tuples; else BadLot."""
    if is_sequence(value) and len(value) == 0:
        return ()
    return check_lot(value, many)


def broken_setting(setting, lot):
    """The setting that the box has with a lot dead."""
    places = list(setting)
    for lever, place in lot:
        places[lever] = place
    return tuple(places)


def tree_lamp(tree, setting):
    """The lamp at a setting."""
    walk = tree_walk(tree)
    return setting_lamp(walk, check_setting(setting, walk.many))


def broken_lamp(tree, lot, setting):
    """The lamp with a lot dead at a setting."""
    walk = tree_walk(tree)
    dead = check_lot(lot, walk.many)
    return setting_lamp(walk, broken_setting(check_setting(setting, walk.many), dead))


def left_of_knot(word, left):
    """What is left of a knot whose parts are left so."""
    settling = 0 if word == "all" else 1
    if ("lamp", settling) in left:
        return ("lamp", settling)
    parts = [what for kind, what in left if kind == "part"]
    if not parts:
        return ("lamp", 1 - settling)
    return ("part", joined(word, parts))


def left_part(tree, lot):
    """What a lot leaves: ("lamp", 0), ("lamp", 1), or ("part", part)."""
    walk = tree_walk(tree)
    left = [("part", lever) for lever in walk.levers]
    for lever, place in check_lot(lot, walk.many):
        left[walk.rows[lever]] = ("lamp", place)
    for row in inner_first(walk):
        if walk.parts[row]:
            left[row] = left_of_knot(walk.words[row], [left[part] for part in walk.parts[row]])
    return left[0]
