"""Stories of formulas: clearing lists, and lots that they let by.

Dead levers are told here as what stands behind the "not": where a lever is turned, the other place.
"""

from deadlevers.choose import cleared_of, first_fault
from deadlevers.columns import full_column, lamp_columns, list_columns
from deadlevers.formulawalks import formula_walk, with_turned
from deadlevers.stories import broken_columns, story_paper, told_story
from deadlevers.walks import levers_by_row
from deadlevers.witness import Witness, all_deaths


def held_lot(levers, value):
    """The lot that holds a part with these levers at a value."""
    return [(lever, value) for lever in levers]


def tall_lot(walk, levers, row):
    """The lot of a tall part.

    Each lever in it can be cleared while the part errs not at all, or to one side, and it can err to
    the other side, too: an "any" errs to light where it clears, an "all" to dark, a "choose" to any.
    """
    parts = walk.parts[row]
    word = walk.words[row]
    if word == "choose":
        return held_lot(levers[parts[0]], 0)
    value = 1 if word == "any" else 0
    knot = [part for part in parts if walk.parts[part]][0]
    other = [part for part in parts if part != knot][0]
    inner = walk.parts[knot][1 if walk.words[knot] == "choose" else 0]
    return held_lot(levers[inner], value) + held_lot(levers[other], 1 - value)


def hidden_lot(walk, row, fault):
    """The lot of a story for what stands against honesty at a knot."""
    levers = levers_by_row(walk)
    parts = walk.parts[row]
    if fault[0] == "tall":
        ranks = fault[1][0]
        return tall_lot(walk, levers, parts[ranks[0]]) + tall_lot(walk, levers, parts[ranks[1]])
    # What the chooser does wrong to light is hidden by `one` held at 1, to dark by `other` held so.
    held = parts[2 if walk.words[parts[0]] == "all" else 1]
    return tall_lot(walk, levers, parts[0]) + held_lot(levers[held], 1)


def formula_story(formula):
    """None for an honest formula, else a clearing list and a lot that it lets by."""
    walk = formula_walk(formula)
    found = first_fault(walk)
    if found is None:
        return None
    lot = sorted(hidden_lot(walk, found[0], found[1]))
    made = Witness(walk, lot, ()).all_clearing(all_deaths(walk.many))
    settings = [tuple(with_turned(walk, setting, 1)) for setting in made]
    return story_paper(settings, [(lever, 1 - place if lever in walk.turned else place) for lever, place in lot])


def formula_story_holds(formula, value):
    """Whether any value tells a clearing list of the formula, and a lot that it lets by."""
    walk = formula_walk(formula)
    told = told_story(value, walk.many)
    if told is None:
        return False
    settings, lot = told
    up, down = cleared_of(walk, settings)
    if len(up) < walk.many or len(down) < walk.many:
        return False
    full = full_column(len(settings))
    columns = list_columns(settings, walk.many)
    sound = lamp_columns(walk, with_turned(walk, columns, full))[0]
    return sound == lamp_columns(walk, with_turned(walk, broken_columns(columns, lot, full), full))[0]
