"""Formulas as rows, as `walks` has trees: besides their knots there are "choose" and turned levers."""

from deadlevers.errors import BadTree
from deadlevers.values import has_length, is_number
from deadlevers.walks import MOST_LEVERS, Walk, has_knot_form, inner_first, is_ordered, row_levers

OTHER_WORDS = {"all": "any", "any": "all"}


class FormulaWalk(Walk):
    """The rows of a formula; `turned` has the levers with a "not"."""

    def __init__(self):
        Walk.__init__(self)
        self.turned = {}

    def put_turned(self, lever, above):
        """Put a lever with a "not"."""
        self.turned[lever] = True
        self.put_lever(lever, above)


def is_choose(value):
    """Whether it looks like a "choose", whatever its parts are."""
    return has_length(value, 4) and isinstance(value[0], str) and value[0] == "choose"


def is_turned_lever(value):
    """Whether it is a lever with a "not", whatever number that has."""
    return has_length(value, 2) and isinstance(value[0], str) and value[0] == "not" and is_number(value[1])


def knot_parts(value, word_above):
    """The parts of what looks like a knot that can stand in one with a word, else None."""
    if is_choose(value):
        return value[1:]
    if has_knot_form(value) and value[0] != word_above:
        return value[1]
    return None


def read_formula(value):
    """The walk of any value with the form of a formula, whatever numbers its levers are, or None."""
    walk = FormulaWalk()
    waiting = [(value, -1)]
    while waiting:
        item, above = waiting.pop()
        if is_number(item):
            walk.put_lever(item, above)
        elif is_turned_lever(item):
            walk.put_turned(item[1], above)
        else:
            parts = knot_parts(item, walk.words[above] if above >= 0 else "")
            if parts is None:
                return None
            row = walk.put_knot(item[0], above)
            waiting.extend([(part, row) for part in parts[::-1]])
        # As many knots as levers stand in no formula: so a list within itself comes to an end, too.
        if walk.many > MOST_LEVERS or len(walk.words) - walk.many >= MOST_LEVERS:
            return None
    return walk


def formula_walk(value):
    """The walk of any value that is a formula; else BadTree."""
    walk = read_formula(value)
    if walk is None:
        raise BadTree(0)
    if sorted(row_levers(walk)) != list(range(walk.many)) or not is_ordered(walk):
        raise BadTree(1)
    return walk


def told_formula(walk, flips):
    """The formula as tuples; in the rows of `flips` words are exchanged and levers turned."""
    made = [0] * len(walk.words)
    for row in inner_first(walk):
        parts = tuple([made[part] for part in walk.parts[row]])
        word = walk.words[row]
        if not parts:
            lever = walk.levers[row]
            made[row] = ("not", lever) if (lever in walk.turned) != flips[row] else lever
        elif word == "choose":
            made[row] = (word,) + parts
        else:
            made[row] = (OTHER_WORDS[word] if flips[row] else word, parts)
    return made[0]


def with_turned(walk, columns, full):
    """By lever of a formula its column, upside down where it stands behind a "not"."""
    return [full ^ column if lever in walk.turned else column for lever, column in enumerate(columns)]
