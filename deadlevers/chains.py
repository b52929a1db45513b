"""Chains, which clearing lists tell from all boxes of their shape; and the boxes that trials leave."""

from deadlevers.columns import clear_columns, filled_setting, full_column, lamp_columns, list_columns
from deadlevers.errors import BadList, Refused
from deadlevers.faults import fault_column, fault_rows, nested_fault, own_rows, plain_rows, same_rows
from deadlevers.seen import check_trials, lamps_by_setting, trial_columns
from deadlevers.shapes import check_kinds
from deadlevers.shown import ShownBoxes
from deadlevers.trees import check_list, mirror_tree
from deadlevers.values import has_length
from deadlevers.walks import levers_by_row, tree_walk


def boxes_left(tree, trials, kinds, *, most):
    """How many unlike boxes have all lamps that were seen, and the plain fault of one of them or None."""
    walk = tree_walk(tree)
    told = check_trials(trials, walk.many)
    check_kinds(walk, kinds)
    lamps = lamps_by_setting(told)
    if lamps is None:
        return (0, None)
    columns, target = trial_columns(list(lamps.items()), walk.many)
    full = full_column(len(lamps))
    count, fault = ShownBoxes(walk, kinds, columns, target, full, most).counted_boxes(0, full)
    for lamp, column in ((0, 0), (1, full)):
        if column == target:
            count += 1
            fault = lamp
    return (count, fault)


def forked_row(walk):
    """The first row of a knot with two parts that are knots, or None."""
    for row, parts in enumerate(walk.parts):
        if len([part for part in parts if walk.parts[part]]) > 1:
            return row
    return None


def is_chain(tree):
    """Whether no knot has two parts that are knots."""
    return forked_row(tree_walk(tree)) is None


def all_shape_story(walk, row):
    """The settings of a story for a forked "all", and the levers that are dead at 0.

    Of two of its parts that are knots all but the first part is dead, and all its other parts: so,
    with its rule exchanged, it burns if either of these first parts does. They are both down where
    it should be dark, and at least one burns where it should burn.
    """
    levers = levers_by_row(walk)
    forks = [part for part in walk.parts[row] if walk.parts[part]][:2]
    firsts = [walk.parts[part][0] for part in forks]
    settings = []
    for lever in range(walk.many):
        settings.append(filled_setting(walk, 1 << lever, 1, walk.many))
        dark = list(filled_setting(walk, 1 << lever, 0, walk.many))
        if lever in levers[row]:
            for part, first in zip(forks, firsts):
                for low in levers[first] if lever not in levers[part] else []:
                    dark[low] = 0
        settings.append(tuple(dark))
    alive = levers[firsts[0]] + levers[firsts[1]]
    return (settings, [lever for lever in levers[row] if lever not in alive])


def exchanged_story(tree):
    """None for a chain, else (settings, row, lot): the exchanged knot and the dead levers of a story."""
    walk = tree_walk(tree)
    row = forked_row(walk)
    if row is None:
        return None
    if walk.words[row] == "all":
        settings, dead = all_shape_story(walk, row)
        return (tuple(settings), row, tuple([(lever, 0) for lever in sorted(dead)]))
    mirror, dead = all_shape_story(tree_walk(mirror_tree(tree)), row)
    settings = [tuple([1 - place for place in setting]) for setting in mirror]
    return (tuple(settings), row, tuple([(lever, 1) for lever in sorted(dead)]))


def shape_story(tree):
    """None for a chain, else a clearing list and the fault of a box that it lets by."""
    found = exchanged_story(tree)
    if found is None:
        return None
    settings, row, lot = found
    walk = tree_walk(tree)
    told = own_rows(walk)
    told[row] = 1 if walk.words[row] == "all" else len(walk.parts[row])
    for lever, place in lot:
        told[walk.rows[lever]] = place
    return (settings, nested_fault(walk, told))


def lets_fault_by(walk, settings, told):
    """Whether a list is clearing and lets a fault by that makes another box."""
    if not all([down != 0 and up != 0 for down, up in clear_columns(walk, settings)]):
        return False
    if same_rows(walk, plain_rows(walk, told), plain_rows(walk, own_rows(walk)))[0]:
        return False
    columns = list_columns(settings, walk.many)
    return fault_column(walk, told, columns, full_column(len(settings))) == lamp_columns(walk, columns)[0]


def story_holds(tree, value):
    """Whether any value tells a clearing list and the fault of a box, not the tree, that it lets by."""
    walk = tree_walk(tree)
    if not has_length(value, 2):
        return False
    try:
        return lets_fault_by(walk, check_list(value[0], walk.many), fault_rows(walk, value[1]))
    except BadList:
        return False
    except Refused:
        return False
