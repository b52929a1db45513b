"""Boxes of a tree's shape: levers dead or turned, knots with any rising rules."""

from deadlevers.burning import product_of
from deadlevers.columns import full_column
from deadlevers.errors import Refused, TooGreat
from deadlevers.faults import (fault_column, fault_rows, needed_rows, nested_fault, nested_plain, own_rows,
                               plain_lamps, plain_rows, same_rows)
from deadlevers.holding import dead_rows, held_rows
from deadlevers.rules import (MOST_TABLE_VALUES, as_number, hanging_values, needing_number, parting_values, rule_needs,
                              rule_value, rules_of)
from deadlevers.trees import check_lot, check_setting
from deadlevers.values import has_length, is_integer
from deadlevers.walks import inner_first, levers_by_row, tree_walk

RULE_KINDS = ("own", "exchanged", "rising")


def own_fault(tree):
    """The fault with which nothing is wrong."""
    walk = tree_walk(tree)
    return nested_fault(walk, own_rows(walk))


def lot_fault(tree, lot):
    """The fault with which the levers of a lot are dead, and nothing else is wrong."""
    walk = tree_walk(tree)
    told = own_rows(walk)
    for lever, place in check_lot(lot, walk.many):
        told[walk.rows[lever]] = place
    return nested_fault(walk, told)


def fault_lamp(tree, fault, setting):
    """The lamp of the box with a fault at a setting."""
    walk = tree_walk(tree)
    told = fault_rows(walk, fault)
    return fault_column(walk, told, check_setting(setting, walk.many), full_column(1))


def plain_fault(tree, fault):
    """The plain fault of the box with a fault."""
    walk = tree_walk(tree)
    return nested_plain(walk, plain_rows(walk, fault_rows(walk, fault)))


def needed_levers(tree, fault):
    """The levers on which the lamp of the box with a fault hangs somewhere."""
    walk = tree_walk(tree)
    rows = needed_rows(walk, plain_rows(walk, fault_rows(walk, fault)))
    return tuple(sorted([walk.levers[row] for row in rows if not walk.parts[row]]))


def put_lamp(walk, plain, row, lamp, setting):
    """Set the levers of a part whose lamp can change so that it has this lamp."""
    waiting = [row]
    while waiting:
        inner = waiting.pop()
        if walk.parts[inner]:
            waiting.extend([walk.parts[inner][at] for at in plain[inner][0]])
        else:
            setting[walk.levers[inner]] = lamp if plain[inner] == "alive" else 1 - lamp


def put_values(walk, plain, row, values, setting):
    """Set the parts on which a knot's lamp hangs at some values."""
    for at, value in zip(plain[row][0], values):
        put_lamp(walk, plain, walk.parts[row][at], value, setting)


def unlike_index(walk, plain, other, row, same):
    """The first part of a knot of which two boxes leave unlike things, if their knots heed it; or None."""
    indexes, others = plain[row][0], other[row][0]
    for at, part in enumerate(walk.parts[row]):
        if at in indexes and at in others:
            if not same[part]:
                return at
        elif at in indexes or at in others:
            return at
    return None


def fixed_lamp(walk, follow, row, at, setting):
    """The lamp of a knot whatever its part at an index does, the rest set so; None if it hangs on it."""
    lamps = plain_lamps(walk, follow, setting)
    indexes, rule = follow[row]
    around = [lamps[walk.parts[row][beside]] for beside in indexes]
    dark = rule_value(rule, [0 if beside == at else lamp for beside, lamp in zip(indexes, around)])
    burning = rule_value(rule, [1 if beside == at else lamp for beside, lamp in zip(indexes, around)])
    return dark if dark == burning else None


def put_knot_parting(walk, one, other, row, same, setting):
    """Set a knot's levers so that two boxes part there, or return the row of a part where it is left to do."""
    at = unlike_index(walk, one, other, row, same)
    if at is None:
        put_values(walk, one, row, parting_values(one[row][1], other[row][1], len(one[row][0])), setting)
        return None
    lead, follow = (one, other) if at in one[row][0] else (other, one)
    indexes, rule = lead[row]
    put_values(walk, lead, row, hanging_values(rule, indexes.index(at), len(indexes)), setting)
    lamp = fixed_lamp(walk, follow, row, at, setting)
    if lamp is None:
        return walk.parts[row][at]
    put_lamp(walk, lead, walk.parts[row][at], 1 - lamp, setting)
    return None


def put_parting(walk, one, other, row, same, setting):
    """Set a part's levers so that two boxes part there, or return the row of a part where it is left to do."""
    if is_integer(one[row]):
        if not is_integer(other[row]):
            put_lamp(walk, other, row, 1 - one[row], setting)
        return None
    if is_integer(other[row]):
        put_lamp(walk, one, row, 1 - other[row], setting)
        return None
    if walk.parts[row]:
        return put_knot_parting(walk, one, other, row, same, setting)
    return None


def parting_setting(tree, one, other):
    """None if two faults make one box, else a setting at which the lamps are unlike."""
    walk = tree_walk(tree)
    first = plain_rows(walk, fault_rows(walk, one))
    second = plain_rows(walk, fault_rows(walk, other))
    same = same_rows(walk, first, second)
    if same[0]:
        return None
    setting = [0] * walk.many
    row = 0
    while row is not None:
        row = put_parting(walk, first, second, row, same, setting)
    return tuple(setting)


def check_kinds(walk, kinds):
    """Raise Refused for any value that is no kinds for the tree."""
    if not has_length(kinds, 2) or not isinstance(kinds[0], bool):
        raise Refused(kinds)
    if not isinstance(kinds[1], str) or kinds[1] not in RULE_KINDS:
        raise Refused(kinds)
    if kinds[1] == "rising" and any([len(parts) > MOST_TABLE_VALUES for parts in walk.parts]):
        raise Refused(kinds)


def rule_count(kind, many):
    """How many rules that hang on all of so many parts a knot can have, the others held."""
    if many == 1 or kind == "own":
        return 1
    if kind == "exchanged":
        return 2
    return needing_number(many)


def by_living(numbers):
    """By count of living parts how many unlike choices there are, from those of the parts."""
    counts = [1]
    for number in numbers:
        more = [count * number for count in counts]
        counts = [count + added for count, added in zip(counts + [0], [0] + more)]
    return counts


def changing_numbers(walk, kinds):
    """By row how many unlike boxes of the part there are whose lamp changes."""
    found = [2 if kinds[0] else 1] * len(walk.words)
    for row in inner_first(walk):
        if walk.parts[row]:
            counts = by_living([found[part] for part in walk.parts[row]])
            found[row] = sum([counts[many] * rule_count(kinds[1], many) for many in range(1, len(counts))])
    return found


def box_number(tree, kinds):
    """How many unlike boxes of the shape there are."""
    walk = tree_walk(tree)
    check_kinds(walk, kinds)
    return changing_numbers(walk, kinds)[0] + 2


def needing_rules(many):
    """All rules that hang on all of so many values, one at least: numbers, and tables where it has none."""
    return [as_number(rule) for rule in rules_of(many) if len(rule_needs(rule)) == many]


def knot_rules(kind, word, many):
    """The rules of so many living parts that a knot of a word can have, the others held."""
    if kind == "rising":
        return needing_rules(many)
    if many == 1:
        return [1]
    if kind == "exchanged":
        return [1, many]
    return [many if word == "all" else 1]


def knot_boxes(kind, word, parts):
    """The plain faults of a knot whose lamp changes, from those of its parts."""
    choices = [((), ())]
    for at, faults in enumerate(parts):
        choices = choices + [
            (indexes + (at,), chosen + (fault,)) for indexes, chosen in choices for fault in faults
        ]
    rules = [[]] + [knot_rules(kind, word, many) for many in range(1, len(parts) + 1)]
    return [(indexes, rule, chosen) for indexes, chosen in choices for rule in rules[len(indexes)]]


def all_boxes(tree, kinds, *, most):
    """The plain faults of all unlike boxes of the shape, 0 and 1 first."""
    walk = tree_walk(tree)
    check_kinds(walk, kinds)
    if changing_numbers(walk, kinds)[0] + 2 > most:
        raise TooGreat(most)
    found = [["alive", "turned"] if kinds[0] else ["alive"]] * len(walk.words)
    for row in inner_first(walk):
        if walk.parts[row]:
            found[row] = knot_boxes(kinds[1], walk.words[row], [found[part] for part in walk.parts[row]])
    return tuple([0, 1] + found[0])


def holding_numbers(walk):
    """By row a pair: how many states of its levers hold the part at 0, and at 1."""
    levers = levers_by_row(walk)
    found = [(1, 1)] * len(walk.words)
    for row in inner_first(walk):
        parts = walk.parts[row]
        if parts:
            all_states = [product_of([3] * len(levers[part])) for part in parts]
            low = [found[part][0] for part in parts]
            high = [found[part][1] for part in parts]
            if walk.words[row] == "all":
                free = product_of([states - held for states, held in zip(all_states, low)])
                found[row] = (product_of(all_states) - free, product_of(high))
            else:
                free = product_of([states - held for states, held in zip(all_states, high)])
                found[row] = (product_of(low), product_of(all_states) - free)
    return found


def lots_alike(tree, lot):
    """How many lots make the box that this lot makes."""
    walk = tree_walk(tree)
    held = held_rows(walk, check_lot(lot, walk.many))
    numbers = holding_numbers(walk)
    if held[0] is not None:
        return numbers[0][held[0]]
    return product_of([numbers[row][held[row]] for row in dead_rows(walk, held)])
