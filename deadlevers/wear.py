"""Levers that die between stretches of trials: what must have been, as the lamps that were seen tell."""

from deadlevers.errors import BadList
from deadlevers.masks import first_bit
from deadlevers.seen import is_trial
from deadlevers.trees import MOST_SETTINGS
from deadlevers.values import is_sequence
from deadlevers.wearstates import death_states


def is_stretch(value, many):
    """Whether any value is a sequence of trials of `many` levers."""
    return is_sequence(value) and len(value) <= MOST_SETTINGS and all([is_trial(trial, many) for trial in value])


def check_log(value, many):
    """Any value that is a log of `many` levers, as tuples; else BadList."""
    if not is_sequence(value) or len(value) > MOST_SETTINGS:
        raise BadList(-1)
    for at, stretch in enumerate(value):
        if not is_stretch(stretch, many):
            raise BadList(at)
    return tuple([tuple([(tuple(setting), lamp) for setting, lamp in stretch]) for stretch in value])


class Wear:
    """By stretch of a log the lots that may be then: `ahead` by the stretches to it, `found` by all of them."""

    def __init__(self, tree, log):
        self.states = death_states(tree)
        self.ahead = []
        mask = self.states.full
        for stretch in check_log(log, self.states.walk.many):
            mask = self.states.wider(mask)
            for setting, lamp in stretch:
                mask &= self.states.showing(setting, lamp)
            self.ahead.append(mask)
        self.found = list(self.ahead)
        for at in reversed(range(len(self.found) - 1)):
            self.found[at] &= self.states.narrower(self.found[at + 1])

    def has_story(self):
        """Whether there is a story."""
        return 0 not in self.found

    def word(self, at, lever):
        """What a lever must be in a stretch of all stories."""
        alive, dead, dead_up = self.states.masks[lever]
        mask = self.found[at]
        for word, inner in (("alive", alive), ("up", dead_up), ("down", dead), ("dead", dead | dead_up)):
            if mask & ~inner == 0:
                return word
        return "open"

    def story(self):
        """A story with the fewest dead levers in the last stretch, if there is one."""
        lots = []
        for at in reversed(range(len(self.ahead))):
            mask = self.ahead[at]
            if lots:
                mask &= self.states.narrower(1 << self.states.bit_of(lots[-1]))
            sizes = [own & mask for own in self.states.of_sizes(self.states.walk.many)]
            lots.append(self.states.lot_of(first_bit([own for own in sizes if own][0])))
        return tuple(lots[::-1])


def wear_lots(tree, log):
    """By stretch the lots, () for none dead, that belong to some story."""
    wear = Wear(tree, log)
    if not wear.has_story():
        return ((),) * len(wear.found)
    return tuple([tuple(wear.states.lots_of(mask)) for mask in wear.found])


def wear_words(tree, log):
    """None if there is no story; else by stretch, by lever, what it must be in all stories."""
    wear = Wear(tree, log)
    if not wear.has_story():
        return None
    levers = list(range(wear.states.walk.many))
    return tuple([tuple([wear.word(at, lever) for lever in levers]) for at in range(len(wear.found))])


def wear_story(tree, log):
    """A story with as few dead levers in the last stretch as any, or None."""
    wear = Wear(tree, log)
    return wear.story() if wear.has_story() else None
