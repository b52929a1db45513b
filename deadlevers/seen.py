"""Trials: settings, and the lamps that were seen there."""

from deadlevers.columns import list_columns
from deadlevers.errors import BadList
from deadlevers.trees import MOST_SETTINGS, first_wrong_place
from deadlevers.values import has_length, is_below, is_sequence


def is_trial(value, many):
    """Whether any value is a pair of a setting of `many` levers and a lamp."""
    return has_length(value, 2) and first_wrong_place(value[0], many) is None and is_below(value[1], 2)


def check_trials(value, many):
    """Any value that is a sequence of trials of `many` levers, as tuples; else BadList."""
    if not is_sequence(value) or len(value) > MOST_SETTINGS:
        raise BadList(-1)
    for at, trial in enumerate(value):
        if not is_trial(trial, many):
            raise BadList(at)
    return tuple([(tuple(setting), lamp) for setting, lamp in value])


def trial_columns(trials, many):
    """The columns of the levers at some trials, and that of the lamps."""
    lamps = 0
    for at, trial in enumerate(trials):
        lamps |= trial[1] << at
    return (list_columns([setting for setting, _ in trials], many), lamps)


def lamps_by_setting(trials):
    """By setting that was tried the lamp that was seen; None if some setting showed both."""
    lamps = {}
    for setting, lamp in trials:
        if lamps.setdefault(setting, lamp) != lamp:
            return None
    return lamps
