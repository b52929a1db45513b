"""Faults of a tree's shape as rows, and what is left of the boxes that they make."""

from deadlevers.errors import Refused
from deadlevers.rules import as_number, held_rule, is_rule, rule_needs, rule_value
from deadlevers.values import has_length, is_below, is_integer, is_number
from deadlevers.walks import inner_first

LEVER_FAULTS = ("alive", "turned")


def is_lever_fault(value):
    """Whether any value is a fault of a lever."""
    return is_below(value, 2) or isinstance(value, str) and value in LEVER_FAULTS


def fault_rows(walk, fault):
    """By row the fault of the lever or the rule of the knot, of any value that is a fault; else Refused."""
    told = [0] * len(walk.words)
    waiting = [(fault, 0)]
    while waiting:
        item, row = waiting.pop()
        parts = walk.parts[row]
        if not parts:
            if not is_lever_fault(item):
                raise Refused(fault)
            told[row] = item
        else:
            if not has_length(item, 2) or not has_length(item[1], len(parts)) or not is_rule(item[0], len(parts)):
                raise Refused(fault)
            told[row] = item[0] if is_number(item[0]) else tuple(item[0])
            waiting.extend(list(zip(item[1], parts)))
    return told


def own_rows(walk):
    """The rows of the fault with which nothing is wrong."""
    told = ["alive"] * len(walk.words)
    for row, parts in enumerate(walk.parts):
        if parts:
            told[row] = len(parts) if walk.words[row] == "all" else 1
    return told


def nested_fault(walk, told):
    """The fault of some rows."""
    made = list(told)
    for row in inner_first(walk):
        if walk.parts[row]:
            made[row] = (told[row], tuple([made[part] for part in walk.parts[row]]))
    return made[0]


def left_of_table(rule, held, living):
    """What is left of a knot with a table: `held` are the parts held at 1, a bit each."""
    left = held_rule(rule, held, living)
    needs = rule_needs(left)
    if not needs:
        return left[0]
    return (tuple([living[at] for at in needs]), as_number(held_rule(left, 0, needs)))


def left_of_knot(rule, plains):
    """What is left of a knot, from what is left of its parts: 0, 1, or (indexes, rule)."""
    living = [at for at, plain in enumerate(plains) if not is_integer(plain)]
    ones = [at for at, plain in enumerate(plains) if is_integer(plain) and plain == 1]
    if not is_number(rule):
        return left_of_table(rule, sum([1 << at for at in ones]), living)
    least = rule - len(ones)
    if least <= 0:
        return 1
    if least > len(living):
        return 0
    return (tuple(living), least)


def plain_rows(walk, told):
    """By row what is left of the part: 0, 1, the lever's fault, or (indexes, rule)."""
    plain = list(told)
    for row in inner_first(walk):
        if walk.parts[row]:
            plain[row] = left_of_knot(told[row], [plain[part] for part in walk.parts[row]])
    return plain


def needed_rows(walk, plain):
    """The rows of the parts on which the lamp hangs somewhere, each ahead of those in it."""
    if is_integer(plain[0]):
        return []
    rows = [0]
    waiting = [0]
    while waiting:
        row = waiting.pop()
        if walk.parts[row]:
            inner = [walk.parts[row][at] for at in plain[row][0]]
            rows.extend(inner)
            waiting.extend(inner)
    return sorted(rows)


def nested_plain(walk, plain):
    """The plain fault of some rows."""
    made = list(plain)
    for row in reversed(needed_rows(walk, plain)):
        if walk.parts[row]:
            indexes, rule = plain[row]
            made[row] = (indexes, rule, tuple([made[walk.parts[row][at]] for at in indexes]))
    return made[0]


def own_plains(walk):
    """By row the plain fault of the part with which nothing is wrong."""
    told = own_rows(walk)
    made = list(told)
    for row in inner_first(walk):
        parts = walk.parts[row]
        if parts:
            made[row] = (tuple(range(len(parts))), told[row], tuple([made[part] for part in parts]))
    return made


def same_rows(walk, plain, other):
    """By row whether the same is left of a part."""
    same = [False] * len(plain)
    for row in inner_first(walk):
        one, two = plain[row], other[row]
        if not walk.parts[row] or is_integer(one) or is_integer(two):
            same[row] = one == two
        elif one == two:
            same[row] = all([same[walk.parts[row][at]] for at in one[0]])
    return same


def plain_lamps(walk, plain, setting):
    """By row the lamp of what is left of the part at a setting."""
    lamps = [0] * len(plain)
    for row in inner_first(walk):
        what = plain[row]
        if is_integer(what):
            lamps[row] = what
        elif walk.parts[row]:
            lamps[row] = rule_value(what[1], [lamps[walk.parts[row][at]] for at in what[0]])
        else:
            place = setting[walk.levers[row]]
            lamps[row] = place if what == "alive" else 1 - place
    return lamps


def at_least_column(columns, least):
    """Where at least so many of some columns have a bit."""
    found = [0] * least
    for column in columns:
        for at in reversed(range(1, least)):
            found[at] |= found[at - 1] & column
        found[0] |= column
    return found[least - 1]


def table_column(rule, columns, full):
    """Where the rule of a table tells 1 of some columns."""
    made = 0
    for number, item in enumerate(rule):
        if item == 1:
            both = full
            for at, column in enumerate(columns):
                if number >> at & 1:
                    both &= column
            made |= both
    return made


def fault_column(walk, told, columns, full):
    """The column of the lamp of the box with a fault, from those of the levers."""
    lamps = [0] * len(told)
    for row in inner_first(walk):
        fault = told[row]
        if walk.parts[row]:
            inner = [lamps[part] for part in walk.parts[row]]
            lamps[row] = at_least_column(inner, fault) if is_number(fault) else table_column(fault, inner, full)
        elif is_number(fault):
            lamps[row] = full if fault == 1 else 0
        else:
            column = columns[walk.levers[row]]
            lamps[row] = column if fault == "alive" else full ^ column
    return lamps[0]
