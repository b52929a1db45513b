"""The court: for which boxes every clearing list shows every lot."""

from deadlevers.cores import core_holds, core_paper, found_tree
from deadlevers.rising import check_rising
from deadlevers.values import has_length, is_below
from deadlevers.walks import row_at, row_place, tree_walk


def tall_rows(walk):
    """By row whether the part is a knot of which some part is a knot."""
    return [any([bool(walk.parts[part]) for part in parts]) for parts in walk.parts]


def tall_place(tree):
    """The least place of a knot with two tall parts, and the indexes of the first two; or None."""
    walk = tree_walk(tree)
    tall = tall_rows(walk)
    for row in range(len(tall)):
        found = [walk.ranks[part] for part in walk.parts[row] if tall[part]]
        if len(found) > 1:
            return (row_place(walk, row), (found[0], found[1]))
    return None


def is_honest(tree):
    """Whether each clearing list of the tree shows every lot."""
    return tall_place(tree) is None


def box_honest(table):
    """Whether each clearing list of the box shows every lot."""
    tree = found_tree(table)
    return tree is not None and is_honest(tree)


def court_paper(table):
    """Why the box is honest, or why it is not."""
    paper = core_paper(table)
    if paper[0] == "killer":
        return ("core",) + paper[1:]
    fault = tall_place(paper[1])
    if fault is None:
        return ("honest",) + paper[1:]
    return ("tall",) + paper[1:] + fault


def has_tall_pair(tree, place, pair):
    """Whether any values tell a knot of the tree and two tall parts of it."""
    walk = tree_walk(tree)
    row = row_at(walk, place)
    if row < 0 or not has_length(pair, 2):
        return False
    parts = walk.parts[row]
    if not is_below(pair[1], len(parts)) or not is_below(pair[0], pair[1]):
        return False
    tall = tall_rows(walk)
    return tall[parts[pair[0]]] and tall[parts[pair[1]]]


def court_holds(table, value):
    """Whether any value is a paper of `court_paper` for the table."""
    check_rising(table)
    if has_length(value, 3) and value[0] == "core":
        return core_holds(table, ("killer", value[1], value[2]))
    if has_length(value, 3) and value[0] == "honest":
        return core_holds(table, ("tree", value[1], value[2])) and is_honest(value[1])
    if has_length(value, 5) and value[0] == "tall" and core_holds(table, ("tree", value[1], value[2])):
        return has_tall_pair(value[1], value[3], value[4])
    return False
