"""Trees as rows, one for each part, so that no function need call itself for a deep tree."""

from deadlevers.errors import BadTree
from deadlevers.values import has_length, is_below, is_number, is_sequence, is_word

MOST_LEVERS = 200


class Walk:
    """The parts of a tree in rows, each ahead of the parts in it, these in their order.

    By row: `words` has "all", "any", or "" for a lever; `levers` the lever, or -1; `parts` the
    rows of its parts; `above` the row of the knot that it is a part of, -1 for the whole tree;
    `ranks` its index there. `rows` has the row of each lever, `many` tells how many levers are.
    """

    def __init__(self):
        self.words = []
        self.levers = []
        self.parts = []
        self.above = []
        self.ranks = []
        self.rows = {}
        self.many = 0

    def put_knot(self, word, above):
        return self.put_row(word, -1, above)

    def put_lever(self, lever, above):
        self.many += 1
        self.rows[lever] = self.put_row("", lever, above)

    def put_row(self, word, lever, above):
        row = len(self.words)
        rank = 0
        if above >= 0:
            rank = len(self.parts[above])
            self.parts[above].append(row)
        self.words.append(word)
        self.levers.append(lever)
        self.parts.append([])
        self.above.append(above)
        self.ranks.append(rank)
        return row


def has_knot_form(value):
    """Whether it looks like a knot, whatever its parts are."""
    if not has_length(value, 2) or not is_word(value[0]) or not is_sequence(value[1]):
        return False
    return 2 <= len(value[1]) <= MOST_LEVERS


def read_form(value):
    """The walk of any value with the form of a tree, whatever numbers its levers are, or None."""
    walk = Walk()
    waiting = [(value, -1)]
    while waiting:
        item, above = waiting.pop()
        if is_number(item):
            walk.put_lever(item, above)
        elif has_knot_form(item) and (above < 0 or walk.words[above] != item[0]):
            row = walk.put_knot(item[0], above)
            waiting.extend([(part, row) for part in item[1][::-1]])
        else:
            return None
        # As many knots as levers stand in no tree: so a list within itself comes to an end, too.
        if walk.many > MOST_LEVERS or len(walk.words) - walk.many >= MOST_LEVERS:
            return None
    return walk


def inner_first(walk):
    """The rows, each behind those of its parts."""
    return list(reversed(range(len(walk.words))))


def least_levers(walk):
    """By row the least lever of the part."""
    least = list(walk.levers)
    for row in inner_first(walk):
        if walk.parts[row]:
            least[row] = min([least[part] for part in walk.parts[row]])
    return least


def is_ordered(walk):
    """Whether the parts of each knot, but for those of a "choose", stand by their least levers."""
    least = least_levers(walk)
    for word, parts in zip(walk.words, walk.parts):
        for at in range(1, len(parts)):
            if word != "choose" and least[parts[at - 1]] >= least[parts[at]]:
                return False
    return True


def row_levers(walk):
    """The levers in the order of the rows."""
    return [lever for lever in walk.levers if lever >= 0]


def tree_walk(value):
    """The walk of any value that is a tree; else BadTree."""
    walk = read_form(value)
    if walk is None:
        raise BadTree(0)
    if sorted(row_levers(walk)) != list(range(walk.many)) or not is_ordered(walk):
        raise BadTree(1)
    return walk


def row_parts(walk):
    """By row the part itself, as tuples."""
    made = list(walk.levers)
    for row in inner_first(walk):
        if walk.parts[row]:
            made[row] = (walk.words[row], tuple([made[part] for part in walk.parts[row]]))
    return made


def way_down(walk, row):
    """The rows from the whole tree to this one."""
    way = [row]
    while walk.above[way[-1]] >= 0:
        way.append(walk.above[way[-1]])
    return way[::-1]


def row_place(walk, row):
    """The place of the part of a row."""
    return tuple([walk.ranks[step] for step in way_down(walk, row)[1:]])


def row_at(walk, place):
    """The row of the part to which any value leads, -1 if it leads to none."""
    if not is_sequence(place):
        return -1
    row = 0
    for rank in place:
        if not is_below(rank, len(walk.parts[row])):
            return -1
        row = walk.parts[row][rank]
    return row


def knot_rows(walk, places):
    """The rows of any value that is an ascending sequence of unlike places of knots, else None."""
    if not is_sequence(places):
        return None
    rows = [row_at(walk, place) for place in places]
    # Rows stand in the order of their places.
    for at, row in enumerate(rows):
        if row < 0 or not walk.parts[row] or at > 0 and row <= rows[at - 1]:
            return None
    return rows


def levers_by_row(walk):
    """By row the levers of the part."""
    levers = [[lever] for lever in walk.levers]
    for row in inner_first(walk):
        if walk.parts[row]:
            levers[row] = [lever for part in walk.parts[row] for lever in levers[part]]
    return levers


def parting_row(walk, one, other):
    """The row of the knot at which the ways of two unlike levers part."""
    row = 0
    for step, beside in zip(way_down(walk, walk.rows[one]), way_down(walk, walk.rows[other])):
        if step != beside:
            return row
        row = step
    return row
