"""Parts that dead levers hold, and the fewest levers that hold a part."""

from deadlevers.walks import inner_first


def settling_value(word):
    """The value of a part that settles its knot."""
    return 0 if word == "all" else 1


def held_rows(walk, lot):
    """By row the value at which a lot holds the part, or None."""
    held = [None] * len(walk.words)
    for lever, place in lot:
        held[walk.rows[lever]] = place
    for row in inner_first(walk):
        if walk.parts[row]:
            settling = settling_value(walk.words[row])
            inner = [held[part] for part in walk.parts[row]]
            if settling in inner:
                held[row] = settling
            elif None not in inner:
                held[row] = 1 - settling
    return held


def dead_rows(walk, held):
    """The rows of the greatest held parts, if the whole tree is not held."""
    within = [False] * len(held)
    found = []
    for row in range(1, len(held)):
        above = walk.above[row]
        within[row] = within[above] or held[above] is not None
        if held[row] is not None and not within[row]:
            found.append(row)
    return found


def live_levers_of(walk, held, dead):
    """The levers in no dead part, if the whole tree is not held."""
    within = [row in dead for row in range(len(held))]
    for row in range(1, len(held)):
        within[row] = within[row] or within[walk.above[row]]
    return [lever for lever in range(walk.many) if not within[walk.rows[lever]]]


def least_of(choices):
    """Of some tuples of levers those of the fewest, of these the least."""
    best = choices[0]
    for levers in choices[1:]:
        if (len(levers), levers) < (len(best), best):
            best = levers
    return best


def holding_levers(walk, value):
    """By row the fewest levers that hold the part if they are dead at the value, of these the least."""
    found = [()] * len(walk.words)
    for row in inner_first(walk):
        parts = walk.parts[row]
        if not parts:
            found[row] = (walk.levers[row],)
        elif settling_value(walk.words[row]) == value:
            found[row] = least_of([found[part] for part in parts])
        else:
            found[row] = tuple(sorted([lever for part in parts for lever in found[part]]))
    return found


def parts_lot(walk, rows, held):
    """The lot of the fewest levers that holds some parts at their values, of these the least."""
    levers = (holding_levers(walk, 0), holding_levers(walk, 1))
    return tuple(sorted([(lever, held[row]) for row in rows for lever in levers[held[row]][row]]))
