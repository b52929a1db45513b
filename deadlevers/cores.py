"""The core of a rising box: what is left if twins are joined as long as there are any."""

from deadlevers.columns import lamp_columns
from deadlevers.errors import BadTree, PaperFault, Refused, TooGreat
from deadlevers.killers import idlers
from deadlevers.masks import up_mask
from deadlevers.rising import check_rising
from deadlevers.tables import MOST_TABLE_LEVERS, Table
from deadlevers.trees import check_tree, joined
from deadlevers.twins import twins_of, with_one_for_both
from deadlevers.values import has_length, is_below, is_sequence
from deadlevers.walks import MOST_LEVERS, is_ordered, read_form, row_levers


class Joining:
    """A box in which twins are joined step by step.

    By lever of the box that is left, `parts` has what it stands for, `least` the least lever of
    that. The lesser of two twins keeps its number, so `least` ascends.
    """

    def __init__(self, table):
        self.table = table
        self.parts = list(range(table.levers))
        self.least = list(range(table.levers))

    def join_twins(self, one, other, word):
        """Join twins, told by their numbers in the box that is left, one less than other."""
        self.table = with_one_for_both(self.table, one, other)
        part = joined(word, (self.parts[one], self.parts[other]))
        self.parts = self.parts[:one] + [part] + self.parts[one + 1:other] + self.parts[other + 1:]
        self.least = self.least[:other] + self.least[other + 1:]

    def join_named(self, one, other, word):
        """Join twins told by their least levers; whether they are there, and twins of this word."""
        if one not in self.least or other not in self.least:
            return False
        twins = (self.least.index(one), self.least.index(other), word)
        if twins not in twins_of(self.table):
            return False
        self.join_twins(twins[0], twins[1], word)
        return True

    def join_all(self):
        """Join twins as long as there are any; what was joined, told by least levers."""
        steps = []
        twins = twins_of(self.table)
        while twins:
            one, other, word = twins[0]
            steps.append((self.least[one], self.least[other], word))
            self.join_twins(one, other, word)
            twins = twins_of(self.table)
        return tuple(steps)


def core_box(table):
    """(core, trees): the core's table, and by its lever the tree that it stands for."""
    check_rising(table)
    joining = Joining(table)
    joining.join_all()
    return (joining.table, tuple(joining.parts))


def found_tree(table):
    """The tree of a box, or None."""
    trees = core_box(table)[1]
    if len(trees) == 1:
        return trees[0]
    return None


def core_walks(value, count):
    """The walks of any value that has a tree for each of so many levers, or None."""
    if not has_length(value, count):
        return None
    walks = [read_form(tree) for tree in value]
    if not all([walk is not None and is_ordered(walk) for walk in walks]):
        return None
    levers = [lever for walk in walks for lever in row_levers(walk)]
    if len(levers) > MOST_LEVERS or sorted(levers) != list(range(len(levers))):
        return None
    return walks


def table_of(core, trees):
    """The table of the box that has a tree in the place of each lever of `core`."""
    walks = core_walks(trees, core.levers)
    if walks is None:
        raise Refused(trees)
    many = sum([walk.many for walk in walks])
    if many > MOST_TABLE_LEVERS:
        raise TooGreat(MOST_TABLE_LEVERS)
    columns = [up_mask(lever, many) for lever in range(many)]
    numbers = [0] * (1 << many)
    for lever, walk in enumerate(walks):
        burning = lamp_columns(walk, columns)[0]
        for at in range(1 << many):
            numbers[at] |= (burning >> at & 1) << lever
    return Table([core.lamps[number] for number in numbers])


def core_paper(table):
    """("tree", tree, joinings) if the box has a tree, else ("killer", joinings, lever)."""
    check_rising(table)
    joining = Joining(table)
    steps = joining.join_all()
    if len(joining.parts) == 1:
        return ("tree", joining.parts[0], steps)
    return ("killer", steps, joining.least[idlers(joining.table)[0]])


def is_joining(value, many):
    """Whether any value has the form of a joining of levers below `many`."""
    if not has_length(value, 3) or not isinstance(value[2], str):
        return False
    return is_below(value[1], many) and is_below(value[0], value[1])


def are_joinings(value, many):
    """Whether any value is a sequence of joinings by their form."""
    return is_sequence(value) and all([is_joining(step, many) for step in value])


def told_tree(value):
    """Any value that is a tree, as tuples; else None."""
    try:
        return check_tree(value)
    except BadTree:
        return None


def core_told(value, many):
    """("tree", tree, joinings) or ("killer", lever, joinings) of any value; PaperFault(0) for none."""
    if not has_length(value, 3):
        raise PaperFault(0)
    if value[0] == "tree" and are_joinings(value[2], many):
        tree = told_tree(value[1])
        if tree is not None:
            return ("tree", tree, value[2])
    if value[0] == "killer" and are_joinings(value[1], many) and is_below(value[2], many):
        return ("killer", value[2], value[1])
    raise PaperFault(0)


def check_core(table, value):
    """Raise PaperFault for any value that is no paper of `core_paper` for the table."""
    check_rising(table)
    kind, thing, steps = core_told(value, table.levers)
    joining = Joining(table)
    for at, (one, other, word) in enumerate(steps):
        if not joining.join_named(one, other, word):
            raise PaperFault(at + 1)
    if kind == "tree":
        if joining.parts != [thing]:
            raise PaperFault(-1)
    elif len(joining.parts) == 1 or thing not in [joining.least[lever] for lever in idlers(joining.table)]:
        raise PaperFault(-1)


def core_holds(table, value):
    """Whether any value is a paper of `core_paper` for the table."""
    try:
        check_core(table, value)
    except PaperFault:
        return False
    return True
