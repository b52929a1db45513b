"""Polls as rows, one for each part, each ahead of the parts in it."""

from deadlevers.errors import BadTree
from deadlevers.values import has_length, is_number, is_sequence, is_word
from deadlevers.walks import MOST_LEVERS, inner_first, least_levers, row_levers

# Nobody reads on where so many parts have the form: they have too many levers in any case.
MOST_PARTS = 100000


class PollWalk:
    """The parts of a poll in rows.

    By row: `words` has the word, or "" for a lever; `asked` how many parts must burn; `levers` the
    lever, or -1; `parts` the rows of its parts. `rows` has the row of each lever, `many` tells how
    many levers are.
    """

    def __init__(self):
        self.words = []
        self.asked = []
        self.levers = []
        self.parts = []
        self.rows = {}
        self.many = 0

    def put_row(self, word, asked, lever, above):
        """Put a row, as the next part of the one above; its number."""
        row = len(self.words)
        if above >= 0:
            self.parts[above].append(row)
        self.words.append(word)
        self.asked.append(asked)
        self.levers.append(lever)
        self.parts.append([])
        if lever >= 0:
            self.rows[lever] = row
            self.many += 1
        return row


def knot_told(value):
    """(word, asked, parts) of any value that looks like a knot, whatever its parts are; else None."""
    if has_length(value, 2) and is_word(value[0]) and is_sequence(value[1]) and len(value[1]) > 1:
        return (value[0], len(value[1]) if value[0] == "all" else 1, value[1])
    if has_length(value, 3) and isinstance(value[0], str) and value[0] == "vote" and is_sequence(value[2]):
        if is_number(value[1]) and 1 < value[1] < len(value[2]):
            return ("vote", value[1], value[2])
    return None


def read_poll(value):
    """The walk of any value with the form of a poll, but for the order of its parts; None if it has it not."""
    walk = PollWalk()
    waiting = [(value, -1)]
    while waiting and len(walk.words) <= MOST_PARTS:
        item, above = waiting.pop()
        knot = knot_told(item)
        if is_number(item):
            walk.put_row("", 0, item, above)
        elif knot is None or above >= 0 and knot[0] == walk.words[above] and knot[0] != "vote":
            return None
        else:
            row = walk.put_row(knot[0], knot[1], -1, above)
            waiting.extend([(part, row) for part in knot[2][::-1]])
    return walk


def are_in_order(walk):
    """Whether the parts of each knot stand in the order of their least levers."""
    least = least_levers(walk)
    inner = [[least[part] for part in parts] for parts in walk.parts]
    return all([found == sorted(found) for found in inner])


def poll_walk(value):
    """The walk of any value that is a poll; else BadTree."""
    walk = read_poll(value)
    if walk is None or len(walk.words) <= MOST_PARTS and not are_in_order(walk):
        raise BadTree(0)
    if walk.many > MOST_LEVERS or sorted(row_levers(walk)) != list(range(walk.many)):
        raise BadTree(1)
    return walk


def poll_parts(walk):
    """By row the part itself, as tuples."""
    made = list(walk.levers)
    for row in inner_first(walk):
        inner = tuple([made[part] for part in walk.parts[row]])
        if walk.words[row] == "vote":
            made[row] = ("vote", walk.asked[row], inner)
        elif inner:
            made[row] = (walk.words[row], inner)
    return made
