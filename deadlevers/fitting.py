"""Which levers may be dead behind some trials, and which must be."""

from deadlevers.answers import (answers_by_row, joined_answer, record_lot, unlike_answers, whole_record)
from deadlevers.columns import full_column, list_columns
from deadlevers.errors import Refused
from deadlevers.seen import check_trials, trial_columns
from deadlevers.trees import check_list
from deadlevers.walks import tree_walk


class Fitting:
    """A tree, trials of it, and the answers that its parts can give on their settings."""

    def __init__(self, tree, trials, most):
        self.walk = tree_walk(tree)
        told = check_trials(trials, self.walk.many)
        self.columns, self.seen = trial_columns(told, self.walk.many)
        self.full = full_column(len(told))
        self.found = answers_by_row(self.walk, self.columns, self.full, most)

    def record(self):
        """The record of the states that fit, or None."""
        return whole_record(self.found[0], self.seen)

    def answers_ahead(self, word, rows):
        """By count of rows the answers that these parts of a knot of a word can give together."""
        ahead = [[self.full if word == "all" else 0]]
        for row in rows:
            ahead.append(list({
                joined_answer(word, one, other): True for one in ahead[-1] for other in unlike_answers(self.found[row])
            }))
        return ahead

    def fitting_answers(self):
        """By row the answers that the part gives in states that fit."""
        fitting = [[]] * len(self.walk.words)
        fitting[0] = [self.seen] if self.record() is not None else []
        for row, parts in enumerate(self.walk.parts):
            word = self.walk.words[row]
            ahead = self.answers_ahead(word, parts)
            behind = self.answers_ahead(word, parts[::-1])[::-1]
            for at, part in enumerate(parts):
                around = list({joined_answer(word, one, other): True for one in ahead[at] for other in behind[at + 1]})
                fitting[part] = [
                    answer for answer in unlike_answers(self.found[part])
                    if any([joined_answer(word, answer, other) in fitting[row] for other in around])
                ]
        return fitting

    def lever_states(self):
        """By lever whether it is alive, dead at 0, dead at 1 in some state that fits; Refused by the caller if none."""
        fitting = self.fitting_answers()
        rows = [self.walk.rows[lever] for lever in range(self.walk.many)]
        return [
            (column in fitting[row], 0 in fitting[row], self.full in fitting[row])
            for row, column in zip(rows, self.columns)
        ]


def fitting_total(tree, trials, *, most=20000):
    """How many states of the levers fit."""
    record = Fitting(tree, trials, most).record()
    return 0 if record is None else record[0]


def fewest_dead(tree, trials, *, most=20000):
    """(fewest dead levers of a state that fits, how many such states have so few), or None."""
    record = Fitting(tree, trials, most).record()
    return None if record is None else (record[1], record[2])


def fitting_lot(tree, trials, *, most=20000):
    """The dead levers of a state that fits with the fewest, or None if none fits."""
    fitting = Fitting(tree, trials, most)
    record = fitting.record()
    return None if record is None else record_lot(record, fitting.walk.many)


def sure_states(tree, trials, most):
    """By lever whether it is alive, dead at 0, dead at 1 in some state that fits; Refused if none does."""
    fitting = Fitting(tree, trials, most)
    if fitting.record() is None:
        raise Refused(trials)
    return fitting.lever_states()


def surely_alive(tree, trials, *, most=20000):
    """The levers that are alive in every state that fits."""
    states = sure_states(tree, trials, most)
    return tuple([lever for lever, state in enumerate(states) if state == (True, False, False)])


def surely_dead(tree, trials, *, most=20000):
    """The pairs (lever, place) that are dead so in every state that fits."""
    dead = []
    for lever, state in enumerate(sure_states(tree, trials, most)):
        if state == (False, True, False):
            dead.append((lever, 0))
        if state == (False, False, True):
            dead.append((lever, 1))
    return tuple(dead)


def let_by(tree, settings, *, most=20000):
    """None, or a lot with the fewest dead levers that a list lets by."""
    walk = tree_walk(tree)
    told = check_list(settings, walk.many)
    found = answers_by_row(walk, list_columns(told, walk.many), full_column(len(told)), most)
    sound, records = found[0]
    if sound not in records:
        return None
    return record_lot(records[sound], walk.many)
