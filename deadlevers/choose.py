"""Formulas: trees with "not" at levers, and with knots that choose which of two parts counts."""

from deadlevers.columns import full_column, hung_columns, lamp_columns, list_columns
from deadlevers.formulawalks import formula_walk, told_formula, with_turned
from deadlevers.trees import broken_setting, check_list, check_lot, check_setting
from deadlevers.walks import row_place


def check_formula(value):
    """Any value that is a formula, as tuples; else BadTree."""
    walk = formula_walk(value)
    return told_formula(walk, [False] * len(walk.words))


def formula_levers(formula):
    """How many levers it has."""
    return formula_walk(formula).many


def lamp_of_formula(walk, setting):
    """The lamp at what is a setting."""
    return lamp_columns(walk, with_turned(walk, setting, full_column(1)))[0]


def formula_lamp(formula, setting):
    """The lamp at a setting."""
    walk = formula_walk(formula)
    return lamp_of_formula(walk, check_setting(setting, walk.many))


def formula_broken(formula, lot, setting):
    """The lamp with a lot dead at a setting."""
    walk = formula_walk(formula)
    dead = check_lot(lot, walk.many)
    return lamp_of_formula(walk, broken_setting(check_setting(setting, walk.many), dead))


def negated_formula(formula):
    """The formula whose lamp burns where this one's does not; choosers stay as they are."""
    walk = formula_walk(formula)
    flips = [True] * len(walk.words)
    for row in range(1, len(flips)):
        above = walk.above[row]
        flips[row] = flips[above] and (walk.words[above] != "choose" or walk.ranks[row] > 0)
    return told_formula(walk, flips)


def cleared_of(walk, settings):
    """The levers that what is a list clears up, those that it clears down."""
    full = full_column(len(settings))
    columns = list_columns(settings, walk.many)
    hung = hung_columns(walk, lamp_columns(walk, with_turned(walk, columns, full)), full)
    levers = list(range(walk.many))
    up = [lever for lever in levers if hung[walk.rows[lever]] & columns[lever]]
    return (tuple(up), tuple([lever for lever in levers if hung[walk.rows[lever]] & ~columns[lever]]))


def formula_cleared(formula, settings):
    """The levers that a list clears up, those that it clears down."""
    walk = formula_walk(formula)
    return cleared_of(walk, check_list(settings, walk.many))


def is_tall_row(walk, row):
    """Whether the part is a "choose", or another knot of which some part is a knot."""
    return walk.words[row] == "choose" or any([bool(walk.parts[part]) for part in walk.parts[row]])


def fault_at(walk, row):
    """What stands against honesty at a knot, behind the place: (word, more); or None."""
    parts = walk.parts[row]
    if walk.words[row] == "choose":
        return ("chooser", ()) if is_tall_row(walk, parts[0]) else None
    tall = [walk.ranks[part] for part in parts if is_tall_row(walk, part)]
    if len(tall) < 2:
        return None
    return ("tall", ((tall[0], tall[1]),))


def first_fault(walk):
    """(row, what stands against honesty there) for the first such place, or None."""
    for row in range(len(walk.words)):
        found = fault_at(walk, row)
        if found is not None:
            return (row, found)
    return None


def formula_fault(formula):
    """None for an honest formula, else what stands against honesty at the first place."""
    walk = formula_walk(formula)
    found = first_fault(walk)
    if found is None:
        return None
    row, (word, more) = found
    return (word, row_place(walk, row)) + more
