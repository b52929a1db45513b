"""A knot of a tree's shape without one of its parts, the open one: what the others leave of it.

Columns have a bit for each of some settings. What is left has a lamp of its own whatever the open
part does, or hangs on it: then it is `low` where the open part is dark, `high` where that burns. All
is counted by these columns, as [how many, way]; a way, one of so many, is (indexes, faults, rule) of
the others on which the lamp hangs. The rule is a word, or a table in which the open part is last.
"""

from deadlevers.errors import TooGreat
from deadlevers.masks import bits_number
from deadlevers.rules import as_number, rule_needs, rules_of, spread_bits


def put_count(found, key, count, way):
    """Add to what is counted there; the first way stays."""
    known = found.get(key)
    if known is None:
        found[key] = [count, way]
    else:
        known[0] += count


def folded(word, parts, most):
    """By column one part alone, and two or more of them joined by a word."""
    ones = {}
    more = {}
    for index, columns in parts:
        ahead = [(column, many, way) for found in (ones, more) for column, (many, way) in found.items()]
        for column, (count, fault) in columns.items():
            for other, many, way in ahead:
                both = column & other if word == "all" else column | other
                put_count(more, both, count * many, (way[0] + (index,), way[1] + (fault,), word))
            put_count(ones, column, count, ((index,), (fault,), word))
        if len(more) > most:
            raise TooGreat(most)
    return (ones, more)


def word_sides(words, parts, full, most):
    """(alone, beside) of a knot whose rule is one of some words; beside by (low, high)."""
    alone = {}
    beside = {(0, full): [1, ((), (), words[0])]}
    for word in words:
        ones, more = folded(word, parts, most)
        for column, (count, way) in list(ones.items()) + list(more.items()):
            put_count(beside, (0, column) if word == "all" else (column, full), count, way)
        for column, (count, way) in more.items():
            put_count(alone, column, count, way)
    # A part alone has no rule that could be exchanged.
    for index, columns in parts:
        for column, (count, fault) in columns.items():
            put_count(alone, column, count, ((index,), (fault,), words[0]))
    return (alone, beside)


def fits_cells(rule, ones, zeros):
    """Whether a table is 1 at some numbers and 0 at others, told as a bit each."""
    burning = bits_number(rule)
    return burning & zeros == 0 and ones & ~burning == 0


class RuleBook:
    """The rising rules that hang on all values, and those of them that fit some cells."""

    def __init__(self):
        self.needing = {}
        self.fitting = {}

    def rules_needing(self, many):
        """All tables that hang on all of so many values."""
        if many not in self.needing:
            self.needing[many] = [rule for rule in rules_of(many) if len(rule_needs(rule)) == many]
        return self.needing[many]

    def rules_fitting(self, many, ones, zeros):
        """The rules of so many others, alone and with the open part, that fit some cells."""
        key = (many, ones, zeros)
        if key not in self.fitting:
            size = 1 << many
            alone = [rule for rule in self.rules_needing(many) if many > 0 and fits_cells(rule, ones, zeros)]
            self.fitting[key] = (alone, [
                (rule, rule[:size], rule[size:]) for rule in self.rules_needing(many + 1)
                if fits_cells(rule[:size], 0, zeros) and fits_cells(rule[size:], ones, 0)
            ])
        return self.fitting[key]


class RisingSides:
    """The sides of knots with any rising rules, so far as they fit what is wanted.

    `cells` are columns by the number of the others' values: where these have just these values.
    Where a cell has bits of `want` the lamp must be able to burn, of `deny` to be dark.
    """

    def __init__(self, book, want, deny, full, most):
        self.book = book
        self.want = want
        self.deny = deny
        self.full = full
        self.most = most
        self.alone = {}
        self.beside = {}
        self.joined = {}

    def put_choice(self, indexes, faults, count, cells):
        """Count all rules for one choice of living parts and their columns."""
        ones = 0
        zeros = 0
        for number, cell in enumerate(cells):
            if cell & self.want:
                ones |= 1 << number
            if cell & self.deny:
                zeros |= 1 << number
        alone, beside = self.book.rules_fitting(len(indexes), ones, zeros)
        for rule in alone:
            put_count(self.alone, rule_column(rule, cells), count, (indexes, faults, rule))
        for rule, low, high in beside:
            key = (rule_column(low, cells), rule_column(high, cells))
            put_count(self.beside, key, count, (indexes, faults, rule))
        self.joined[cells[-1]] = True
        if len(self.joined) > self.most:
            raise TooGreat(self.most)

    def put_parts(self, parts):
        """Count all choices of living parts and their columns."""
        choices = [((), (), 1, [self.full])]
        for index, columns in parts[:-1]:
            choices = choices + [
                (indexes + (index,), faults + (fault,), many * count, split_cells(cells, column))
                for indexes, faults, many, cells in choices for column, (count, fault) in columns.items()
            ]
        for indexes, faults, many, cells in choices:
            self.put_choice(indexes, faults, many, cells)
            for column, (count, fault) in parts[-1][1].items():
                wider = split_cells(cells, column)
                self.put_choice(indexes + (parts[-1][0],), faults + (fault,), many * count, wider)


def split_cells(cells, column):
    """The cells with one value more, told by its column."""
    return [cell & ~column for cell in cells] + [cell & column for cell in cells]


def rule_column(rule, cells):
    """The column of the lamp by a table."""
    column = 0
    for item, cell in zip(rule, cells):
        if item == 1:
            column |= cell
    return column


def moved_rule(rule, many, position):
    """A table of `many` values and a last one, with the last one at a position among them."""
    places = [at if at < position else at + 1 for at in range(many)] + [position]
    made = [0] * len(rule)
    for number, item in enumerate(rule):
        made[spread_bits(number, places)] = item
    return tuple(made)


def alone_fault(way):
    """The plain fault of a knot that does not hang on the open part."""
    indexes, faults, rule = way
    if isinstance(rule, tuple):
        return (indexes, as_number(rule), faults)
    return (indexes, len(indexes) if rule == "all" else 1, faults)


def beside_fault(way, index, fault):
    """The plain fault of a knot that hangs on the open part, too, from its index and its fault."""
    indexes, faults, rule = way
    position = len([at for at in indexes if at < index])
    if isinstance(rule, tuple):
        told = as_number(moved_rule(rule, len(indexes), position))
    else:
        told = len(indexes) + 1 if rule == "all" else 1
    return (indexes[:position] + (index,) + indexes[position:], told, faults[:position] + (fault,) + faults[position:])
