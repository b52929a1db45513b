"""Lamps at many settings at once.

A column is an integer with a bit for each setting: that of a lever tells where the lever is up,
that of a part where its lamp burns. `full` is the column with all bits. Beside trees the walk may
be that of a formula: of the three parts of a "choose" the first one tells which of the others counts.
"""

from deadlevers.walks import inner_first


def list_columns(settings, many):
    """By lever its column; the setting of index r counts 2 to the power of r."""
    columns = [0] * many
    for at, setting in enumerate(settings):
        for lever in range(many):
            columns[lever] |= setting[lever] << at
    return columns


def full_column(count):
    """The column with the bits of so many settings."""
    return (1 << count) - 1


def knot_column(word, columns):
    """The column of a knot whose parts have these."""
    if word == "choose":
        return columns[0] & columns[1] | columns[2] & ~columns[0]
    column = columns[0]
    for other in columns[1:]:
        if word == "all":
            column &= other
        else:
            column |= other
    return column


def lamp_columns(walk, columns):
    """By row the column of the part's lamp, from those of the levers."""
    lamps = [0] * len(walk.words)
    for row in inner_first(walk):
        if walk.parts[row]:
            lamps[row] = knot_column(walk.words[row], [lamps[part] for part in walk.parts[row]])
        else:
            lamps[row] = columns[walk.levers[row]]
    return lamps


def part_hangs(word, lamps, full):
    """By part of a knot where the knot's lamp hangs on it: where no other part settles it."""
    if word == "choose":
        return [lamps[1] ^ lamps[2], lamps[0], full ^ lamps[0]]
    settling = lamps
    if word == "all":
        settling = [full ^ lamp for lamp in lamps]
    once = 0
    twice = 0
    for column in settling:
        twice |= once & column
        once |= column
    return [full ^ ((once & ~column) | twice) for column in settling]


def hung_columns(walk, lamps, full, tops=()):
    """By row where the lamp of the whole tree hangs on the part; `lamps` of `lamp_columns`.

    Below the rows of `tops`, which have lamps of their own, it is the nearest one above that counts.
    """
    hung = [full] * len(lamps)
    for row in range(len(walk.words)):
        parts = walk.parts[row]
        if parts:
            hangs = part_hangs(walk.words[row], [lamps[part] for part in parts], full)
            for part, column in zip(parts, hangs):
                hung[part] = full if part in tops else hung[row] & column
    return hung


def setting_lamp(walk, setting):
    """The lamp at one setting."""
    return lamp_columns(walk, setting)[0]


def clear_columns(walk, settings):
    """By lever of a tree a pair: at which settings it is cleared down, and up."""
    lamps = lamp_columns(walk, list_columns(settings, walk.many))
    full = full_column(len(settings))
    hung = hung_columns(walk, lamps, full)
    rows = [walk.rows[lever] for lever in range(walk.many)]
    return [(hung[row] & (full ^ lamps[0]), hung[row] & lamps[0]) for row in rows]


def marked_rows(walk, targets):
    """By row whether the part has one of the levers in `targets`, a bit each."""
    marked = [False] * len(walk.words)
    for row in inner_first(walk):
        if walk.parts[row]:
            marked[row] = any([marked[part] for part in walk.parts[row]])
        else:
            marked[row] = targets >> walk.levers[row] & 1 == 1
    return marked


def filled_setting(walk, targets, place, many):
    """The setting with some levers, a bit each, at a place, and the others out of their way.

    Where a knot has some of them below, all levers of its parts without any are up if it is an
    "all", down if it is an "any". Levers of other parts of the box, below `many`, are down.
    """
    marked = marked_rows(walk, targets)
    setting = [0] * many
    fills = [0] * len(marked)
    for row in range(len(walk.words)):
        above = walk.above[row]
        if above >= 0:
            fills[row] = fills[above]
            if marked[above]:
                fills[row] = 1 if walk.words[above] == "all" else 0
        if not walk.parts[row]:
            setting[walk.levers[row]] = place if marked[row] else fills[row]
    return tuple(setting)
