"""Where dead levers meet, and how they hide one another there."""

from deadlevers.deadparts import DeadParts
from deadlevers.errors import Refused, TooGreat
from deadlevers.holding import holding_levers, live_levers_of, parts_lot
from deadlevers.sharplists import sharp_numbers
from deadlevers.tables import number_setting
from deadlevers.trees import check_lot
from deadlevers.values import check_place, has_length, is_below
from deadlevers.walks import row_place, tree_walk
from deadlevers.witness import Witness, all_deaths


def tree_dead(tree, lot):
    """The dead parts of any values that are a tree and a lot of it."""
    walk = tree_walk(tree)
    return DeadParts(walk, check_lot(lot, walk.many))


def dead_parts(tree, lot):
    """The pairs (place, value) of the dead parts, None if the whole tree is held."""
    dead = tree_dead(tree, lot)
    if dead.is_whole():
        return None
    return tuple([(row_place(dead.walk, row), dead.held[row]) for row in dead.rows])


def live_levers(tree, lot):
    """The levers on which the lamp with the lot dead hangs somewhere."""
    dead = tree_dead(tree, lot)
    if dead.is_whole():
        return ()
    return tuple(live_levers_of(dead.walk, dead.held, dead.rows))


def holders(tree, value):
    """The fewest levers that hold a whole tree at a value, of these the least."""
    walk = tree_walk(tree)
    check_place(value)
    return holding_levers(walk, value)[0]


def hold_lot(tree, value):
    """Of the lots of the fewest levers that hold a whole tree at a value the least one."""
    return tuple([(lever, value) for lever in holders(tree, value)])


def hold_number(tree, value):
    """How many levers it takes to hold a whole tree at a value."""
    return len(holders(tree, value))


def spare_lot(tree, lot):
    """Of the lots that make the same box the one of the fewest levers, of these the least."""
    dead = tree_dead(tree, lot)
    return parts_lot(dead.walk, [0] if dead.is_whole() else dead.rows, dead.held)


def meetings(tree, lot):
    """By dead part its place and value, and whom of the other value it meets first at ALL, and at ANY, knots."""
    dead = tree_dead(tree, lot)
    return tuple([
        (row_place(dead.walk, row), dead.held[row], dead.met(index, "all"), dead.met(index, "any"))
        for index, row in enumerate(dead.rows)
    ])


def is_let(tree, lot):
    """Whether some clearing list lets the lot by."""
    return tree_dead(tree, lot).is_let()


def is_sharp(tree, lot):
    """Whether each dead part meets some of the other value both at an ALL and at an ANY knot."""
    return tree_dead(tree, lot).is_sharp()


def let_paper(tree, lot):
    """Who hides each dead part, or a lever that is never cleared in a place where the broken lamp is right."""
    dead = tree_dead(tree, lot)
    if dead.is_whole():
        return ("shown", 0, 1 - dead.held[0])
    hiders = dead.hidden_by()
    if None not in hiders:
        return ("let", tuple(hiders))
    # Where the lamp hangs on a lever of this part nothing hides what it does wrong.
    row = dead.rows[hiders.index(None)]
    return ("shown", dead.least[row], 1 - dead.held[row])


def are_hiders(dead, value):
    """Whether any value tells by dead part one that hides it."""
    count = len(dead.rows)
    if dead.is_whole() or not has_length(value, count) or not all([is_below(other, count) for other in value]):
        return False
    return all([dead.does_meet(index, other, dead.hiding_word(index)) for index, other in enumerate(value)])


def let_holds(tree, lot, value):
    """Whether any value is a paper of `let_paper`, with any such parts, lever and place."""
    dead = tree_dead(tree, lot)
    if has_length(value, 2) and value[0] == "let":
        return are_hiders(dead, value[1])
    if not has_length(value, 3) or value[0] != "shown":
        return False
    if not is_below(value[1], dead.walk.many) or not is_below(value[2], 2):
        return False
    return not Witness(dead.walk, lot, ()).can_clear(value[1], value[2])


def let_list(tree, lot):
    """A clearing list that lets the lot by."""
    dead = tree_dead(tree, lot)
    if not dead.is_let():
        raise Refused(lot)
    return tuple(Witness(dead.walk, lot, ()).all_clearing(all_deaths(dead.walk.many)))


def sharp_list(tree, lot, *, most=400):
    """A list that lets by just the lots that make the same box as a sharp one."""
    dead = tree_dead(tree, lot)
    if not dead.is_sharp():
        raise Refused(lot)
    numbers = sharp_numbers(dead)
    if len(numbers) > most:
        raise TooGreat(most)
    return tuple([number_setting(number, dead.walk.many) for number in numbers])
