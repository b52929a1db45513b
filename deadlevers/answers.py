"""Answers of a tree on a list, as columns with a bit for each setting: by answer what states give it.

A record of some states of levers is (how many states, fewest dead levers, how many states have so
few, dead levers of one of these, those of them stuck at 1), the last two with a bit by lever.
"""

from deadlevers.errors import TooGreat
from deadlevers.walks import inner_first

NO_DEATH = (1, 0, 1, 0, 0)


def both_records(one, other):
    """The record of the states of two parts together."""
    return (one[0] * other[0], one[1] + other[1], one[2] * other[2], one[3] | other[3], one[4] | other[4])


def either_record(one, other):
    """The record of some states or some others."""
    states = one[0] + other[0]
    if one[1] == other[1]:
        return (states, one[1], one[2] + other[2], one[3], one[4])
    return (states,) + (one if one[1] < other[1] else other)[1:]


def put_record(found, answer, record):
    """Put a record to those of an answer."""
    if answer in found:
        found[answer] = either_record(found[answer], record)
    else:
        found[answer] = record


def joined_answer(word, one, other):
    """The answer of a knot of two parts with these."""
    return one & other if word == "all" else one | other


def lever_records(lever, full):
    """By answer the record of the states in which a lever is dead."""
    found = {}
    put_record(found, 0, (1, 1, 1, 1 << lever, 0))
    put_record(found, full, (1, 1, 1, 1 << lever, 1 << lever))
    return found


def joined_records(word, one, other):
    """By answer the record of a knot of two parts, both told as (answer with all alive, records of the rest)."""
    found = {}
    for first, record in [(one[0], NO_DEATH)] + list(one[1].items()):
        for second, beside in [(other[0], NO_DEATH)] + list(other[1].items()):
            both = both_records(record, beside)
            if both[1] > 0:
                put_record(found, joined_answer(word, first, second), both)
    return (joined_answer(word, one[0], other[0]), found)


def answers_by_row(walk, columns, full, most):
    """By row (the answer with all levers alive, by answer the record of all other states)."""
    found = [(0, {})] * len(walk.words)
    for row in inner_first(walk):
        parts = walk.parts[row]
        if parts:
            found[row] = found[parts[0]]
            for part in parts[1:]:
                found[row] = joined_records(walk.words[row], found[row], found[part])
                if len(found[row][1]) > most:
                    raise TooGreat(most)
        else:
            lever = walk.levers[row]
            found[row] = (columns[lever], lever_records(lever, full))
            if len(found[row][1]) > most:
                raise TooGreat(most)
    return found


def unlike_answers(told):
    """All unlike answers."""
    alive, records = told
    return list(records) + ([] if alive in records else [alive])


def whole_record(told, answer):
    """The record of all states that give an answer, or None."""
    alive, records = told
    if alive != answer:
        return records.get(answer)
    if answer in records:
        return either_record(NO_DEATH, records[answer])
    return NO_DEATH


def record_lot(record, many):
    """The lot of a record: the dead levers of one state with the fewest."""
    dead = [lever for lever in range(many) if record[3] >> lever & 1]
    return tuple([(lever, record[4] >> lever & 1) for lever in dead])
