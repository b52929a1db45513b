"""Trees with one part exchanged for another one, or taken out."""

from deadlevers.trees import joined
from deadlevers.walks import read_form, row_levers, row_parts


def moved_part(walk, first, more):
    """The tree of a walk with another number in the place of lever 0, its others from a number on."""
    other = read_form(row_parts(walk)[0])
    other.levers = [first if lever == 0 else lever + more - 1 if lever > 0 else lever for lever in walk.levers]
    return row_parts(other)[0]


def renumbered(tree):
    """What has the form of a tree, with its levers numbered anew from 0, in their order."""
    walk = read_form(tree)
    numbers = {lever: at for at, lever in enumerate(sorted(row_levers(walk)))}
    walk.levers = [numbers.get(lever, -1) for lever in walk.levers]
    return row_parts(walk)[0]


def with_part(walk, row, part):
    """The tree with another part in the place of one, None for none; like words joined, levers numbered anew."""
    made = row_parts(walk)
    made[row] = part
    while walk.above[row] >= 0:
        row = walk.above[row]
        left = [made[inner] for inner in walk.parts[row] if made[inner] is not None]
        made[row] = joined(walk.words[row], tuple(left))
    return renumbered(made[0])
