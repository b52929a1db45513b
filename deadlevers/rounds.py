"""Lists that are gone through again and again: how long deaths stay hidden."""

from deadlevers.columns import clear_columns, setting_lamp
from deadlevers.errors import BadLot, Refused
from deadlevers.masks import first_bit
from deadlevers.trees import check_list, check_lot
from deadlevers.trials import bit_indexes
from deadlevers.values import has_length, is_below, is_number, is_sequence
from deadlevers.walks import tree_walk
from deadlevers.wearstates import death_states


def check_round(settings, many):
    """Any value that is a list of `many` levers with a setting, as tuples; else BadList or Refused."""
    told = check_list(settings, many)
    if not told:
        raise Refused(settings)
    return told


def greatest_gap(wrong, length):
    """The most steps in a round to the next of some indexes, None if there are none."""
    if not wrong:
        return None
    behind = wrong[1:] + (wrong[0] + length,)
    return max([after - before for before, after in zip(wrong, behind)])


def all_gaps(tree, settings):
    """(lever, place, most trials to the first wrong lamp) by death."""
    walk = tree_walk(tree)
    told = check_round(settings, walk.many)
    found = []
    for lever, (down, up) in enumerate(clear_columns(walk, told)):
        found.append((lever, 0, greatest_gap(bit_indexes(up), len(told))))
        found.append((lever, 1, greatest_gap(bit_indexes(down), len(told))))
    return found


def round_gaps(tree, settings):
    """By death (lever, place, the most trials from it on to the first wrong lamp, that one counted, or None)."""
    return tuple(all_gaps(tree, settings))


def round_delay(tree, settings):
    """The greatest of these numbers, None if one is."""
    numbers = [number for _, _, number in all_gaps(tree, settings)]
    return None if None in numbers else max(numbers)


class Hiding:
    """What deaths, one at least and some number at most, may hide in a list that is gone through in rounds.

    `right` has by index the lots with which the lamp is right.
    """

    def __init__(self, tree, settings, deaths):
        self.states = death_states(tree)
        many = self.states.walk.many
        self.settings = check_round(settings, many)
        if not is_number(deaths) or not 1 <= deaths <= many:
            raise Refused(deaths)
        self.deaths = deaths
        self.allowed = 0
        for mask in self.states.of_sizes(deaths)[1:]:
            self.allowed |= mask
        lamps = [setting_lamp(self.states.walk, at) for at in self.settings]
        self.right = [self.states.showing(at, lamp) & self.allowed for at, lamp in zip(self.settings, lamps)]

    def always(self):
        """The lots that the list lets by."""
        mask = self.allowed
        for right in self.right:
            mask &= right
        return mask

    def run_from(self, first):
        """By trial, from an index on, the lots that may be then with right lamps so far; if no lot is let by."""
        masks = []
        mask = self.right[first]
        while mask:
            masks.append(mask)
            mask = self.states.wider(mask) & self.right[(first + len(masks)) % len(self.right)]
        return masks

    def longest(self):
        """(first index, masks) of a longest run, if no lot is let by."""
        best = (0, [])
        for first in range(len(self.right)):
            masks = self.run_from(first)
            if len(masks) > len(best[1]):
                best = (first, masks)
        return best

    def lots_through(self, masks):
        """By trial a lot, each holding all of the one ahead, to the last trial of a run."""
        lots = []
        for mask in masks[::-1]:
            if lots:
                mask &= self.states.narrower(1 << self.states.bit_of(lots[-1]))
            lots.append(self.states.lot_of(first_bit(mask)))
        return tuple(lots[::-1])

    def is_hiding(self, lot):
        """Whether what is a lot has not too many deaths, and the list lets it by."""
        return self.always() >> self.states.bit_of(lot) & 1 == 1

    def is_run(self, first, lots):
        """Whether from an index on all lamps are right with these lots, each holding all of the one ahead."""
        held = ()
        for at, lot in enumerate(lots):
            right = self.right[(first + at) % len(self.right)]
            if not right >> self.states.bit_of(lot) & 1 or not all([death in lot for death in held]):
                return False
            held = lot
        return True


def longest_hiding(tree, settings, deaths):
    """The most trials in a row with right lamps while levers are dead, None if there is no end to it."""
    hiding = Hiding(tree, settings, deaths)
    return None if hiding.always() else len(hiding.longest()[1])


def hiding_paper(tree, settings, deaths):
    """("always", lot) if there is no end to it, else ("run", first, lots) of a longest row."""
    hiding = Hiding(tree, settings, deaths)
    if hiding.always():
        return ("always", hiding.states.lot_of(first_bit(hiding.always())))
    first, masks = hiding.longest()
    return ("run", first, hiding.lots_through(masks))


def told_lots(value, many):
    """Any value that is a sequence of lots, as tuples, else None."""
    if not is_sequence(value):
        return None
    try:
        return [check_lot(lot, many) for lot in value]
    except BadLot:
        return None


def hiding_holds(tree, settings, deaths, value):
    """Whether any value tells a lot that is let by, or such a row of trials, perhaps a shorter one."""
    hiding = Hiding(tree, settings, deaths)
    many = hiding.states.walk.many
    if has_length(value, 2) and value[0] == "always":
        lots = told_lots([value[1]], many)
        return lots is not None and hiding.is_hiding(lots[0])
    if not has_length(value, 3) or value[0] != "run" or not is_below(value[1], len(hiding.settings)):
        return False
    lots = told_lots(value[2], many)
    return lots is not None and hiding.is_run(value[1], lots)
