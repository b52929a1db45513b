"""Rising rules of a few values: they never fall from 1 to 0 when a value goes from 0 to 1."""

from math import comb

from deadlevers.errors import Refused
from deadlevers.masks import bits_number, number_bits
from deadlevers.values import has_length, is_below, is_number

MOST_TABLE_VALUES = 4


def is_under(low, high):
    """Whether a table is nowhere greater than another one."""
    return all([one <= other for one, other in zip(low, high)])


def rules_of(many):
    """All tables of rising rules of `many` values, none let, ascending.

    The last value counts most: while it is 0 the first half of a table tells, then the second.
    """
    rules = [(0,), (1,)]
    for _ in range(many):
        rules = [low + high for low in rules for high in rules if is_under(low, high)]
    return rules


def rising_rules(many):
    """The ascending tuple of all tables of rising rules of 1 to 4 values."""
    if not is_below(many, MOST_TABLE_VALUES + 1) or many == 0:
        raise Refused(many)
    return tuple(rules_of(many))


def table_values(rule):
    """Of how many values a table is."""
    return len(rule).bit_length() - 1


def rule_needs(rule):
    """The indexes of the values on which the rule of a table hangs."""
    needs = []
    for at in range(table_values(rule)):
        if any([rule[number] != rule[number | 1 << at] for number in range(len(rule))]):
            needs.append(at)
    return tuple(needs)


def needing_number(many):
    """How many rising rules hang on all of up to 4 values."""
    if not is_below(many, MOST_TABLE_VALUES + 1):
        raise Refused(many)
    # Each of the others hangs on all of some fewer values.
    counts = []
    for size in range(many + 1):
        fewer = sum([comb(size, less) * counts[less] for less in range(size)])
        counts.append(len(rules_of(size)) - fewer)
    return counts[many]


def is_rule(value, many):
    """Whether any value tells a rising rule of so many values, as a number or as a table."""
    if is_number(value):
        return 1 <= value <= many
    if many > MOST_TABLE_VALUES or not has_length(value, 1 << many):
        return False
    if not all([is_below(item, 2) for item in value]):
        return False
    return all([value[number] <= value[number | 1 << at] for number in range(len(value)) for at in range(many)])


def rule_value(rule, values):
    """What a rule tells of some values."""
    if is_number(rule):
        return 1 if sum(values) >= rule else 0
    return rule[bits_number(values)]


def threshold_table(least, many):
    """The table of "at least so many" of some values."""
    return tuple([1 if sum(number_bits(number, many)) >= least else 0 for number in range(1 << many)])


def as_number(rule):
    """The number of the rule of a table if it has one, else the table."""
    many = table_values(rule)
    for least in range(1, many + 1):
        if rule == threshold_table(least, many):
            return least
    return rule


def spread_bits(number, places):
    """The integer in which the bits of a number stand at other places."""
    made = 0
    for at, place in enumerate(places):
        made |= (number >> at & 1) << place
    return made


def held_rule(rule, held, places):
    """The table of the values at some places, if of the others just those of `held` are 1, a bit each."""
    return tuple([rule[held | spread_bits(number, places)] for number in range(1 << len(places))])


def hanging_values(rule, at, many):
    """Values of a rule that hangs on all, the one at an index 0, at which it hangs on this one."""
    others = [beside for beside in range(many) if beside != at]
    if is_number(rule):
        up = others[:rule - 1]
        return [1 if beside in up else 0 for beside in range(many)]
    for number in range(len(rule)):
        if rule[number] != rule[number | 1 << at]:
            return number_bits(number, many)
    return None


def parting_values(one, other, many):
    """Values at which two unlike rules that hang on all tell unlike things."""
    if is_number(one) and is_number(other):
        return [1 if at < min(one, other) else 0 for at in range(many)]
    for number in range(1 << many):
        values = number_bits(number, many)
        if rule_value(one, values) != rule_value(other, values):
            return values
    return None
