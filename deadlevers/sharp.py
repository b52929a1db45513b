"""Sharp lots and least error sets: how many there are, and lists that miss few of them."""

from deadlevers.deadparts import DeadParts
from deadlevers.errors import Refused, TooGreat
from deadlevers.holding import parts_lot
from deadlevers.sharplists import sharp_numbers
from deadlevers.sharpways import SharpWays
from deadlevers.tables import number_setting
from deadlevers.trees import MOST_SETTINGS, check_lot
from deadlevers.values import is_below, is_number
from deadlevers.walks import least_levers, tree_walk


def sizes_of(walk):
    """By count of levers of the spare lot how many sharp broken boxes there are, () for none."""
    # There are at most as many broken boxes as settings, and one more.
    width = walk.many + 2
    total = SharpWays(walk, width).total()
    sizes = []
    while total > 0:
        sizes.append(total & ((1 << width) - 1))
        total >>= width
    return tuple(sizes)


def sharp_sizes(tree):
    """By count of levers of the spare lot how many sharp broken boxes there are, () for none."""
    return sizes_of(tree_walk(tree))


def sharp_number(tree):
    """How many sharp broken boxes there are."""
    return SharpWays(tree_walk(tree), 0).total()


def greatest_size(walk):
    """How many dead levers must be looked for at once."""
    return max(1, len(sizes_of(walk)) - 1)


def catch_number(tree):
    """The least number of levers such that lists that show each lot of so many show every lot."""
    return greatest_size(tree_walk(tree))


def lone_lots(walk):
    """The lots of one lever with least error sets: those of levers, then those of flat knots."""
    if walk.many == 1:
        return [((0, 0),), ((0, 1),)]
    least = least_levers(walk)
    lots = []
    for lever in range(walk.many):
        word = walk.words[walk.above[walk.rows[lever]]]
        lots.append(((lever, 1 if word == "all" else 0),))
    for row, parts in enumerate(walk.parts):
        if parts and not any([walk.parts[part] for part in parts]):
            lots.append(((least[row], 0 if walk.words[row] == "all" else 1),))
    return lots


def error_sizes(tree):
    """By the fewest levers of a lot that has it how many least error sets there are."""
    walk = tree_walk(tree)
    sizes = list(sizes_of(walk)) + [0, 0]
    sizes[1] += len(lone_lots(walk))
    while sizes[-1] == 0:
        sizes.pop()
    return tuple(sizes)


def error_number(tree):
    """How many least error sets there are."""
    walk = tree_walk(tree)
    return len(lone_lots(walk)) + SharpWays(walk, 0).total()


def numbered_lot(ways, number):
    """The spare lot of the sharp broken box with a number; None: of one of the most levers."""
    held = ways.dead_of(number)
    return parts_lot(ways.walk, list(held), held)


def sharp_lot(tree, number):
    """The spare lot of the sharp broken box with a number."""
    ways = SharpWays(tree_walk(tree), 0)
    if not is_below(number, ways.total()):
        raise Refused(number)
    return numbered_lot(ways, number)


def sharp_place(tree, lot):
    """The number of the broken box of a lot, None if it is not sharp."""
    walk = tree_walk(tree)
    dead = DeadParts(walk, check_lot(lot, walk.many))
    if not dead.is_sharp():
        return None
    return SharpWays(walk, 0).number_of(dead.held)


def error_lot(tree, number):
    """A lot of the least error set with a number: of lone lots first, then of sharp ones."""
    walk = tree_walk(tree)
    lots = lone_lots(walk)
    if is_below(number, len(lots)):
        return lots[number]
    ways = SharpWays(walk, 0)
    if not is_below(number, len(lots) + ways.total()):
        raise Refused(number)
    return numbered_lot(ways, number - len(lots))


def missed_lot(tree, number):
    """None, or a list that shows each lot of at most so many levers, and a lot that it lets by."""
    walk = tree_walk(tree)
    if not is_number(number) or number == 0:
        raise Refused(number)
    if number >= greatest_size(walk):
        return None
    lot = numbered_lot(SharpWays(walk, walk.many + 2), None)
    numbers = sharp_numbers(DeadParts(walk, lot))
    if len(numbers) > MOST_SETTINGS:
        raise TooGreat(MOST_SETTINGS)
    return (tuple([number_setting(found, walk.many) for found in numbers]), lot)
