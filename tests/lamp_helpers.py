"""Plain searches over trees with lamps at knots, and deaths in doubt."""

from deadlevers.trees import tree_knots
from helpers import all_deaths, all_lots, broken, lamp, lever_places, many_of, part_of, settings_of, turned


def nearest(tree, lamps, lever):
    """The place of the lamp nearest above a lever."""
    way = lever_places(tree)[lever]
    found = [place for place in lamps if way[:len(place)] == place]
    return max(found, key=len) if found else ()


def lamp_at(tree, place, setting):
    return lamp(part_of(tree, place), setting)


def all_lamps(tree, lamps, setting):
    return tuple(lamp_at(tree, place, setting) for place in ((),) + tuple(lamps))


def shown_at(tree, lamps, setting):
    """The deaths that a setting shows by lamps."""
    found = set()
    for lever in range(many_of(tree)):
        place = nearest(tree, lamps, lever)
        if lamp_at(tree, place, turned(setting, lever)) != lamp_at(tree, place, setting):
            found.add((lever, 1 - setting[lever]))
    return found


def inner_knots(tree):
    return [place for place in tree_knots(tree) if place]


def drawn_lamps(rng, tree, often=0.3):
    return tuple(place for place in inner_knots(tree) if rng.random() < often)


def drawn_doubts(rng, many, often=0.7):
    return tuple(death for death in all_deaths(many) if rng.random() < often)


class PlainLamps:
    """At all settings the lamps, and the deaths that they show."""

    def __init__(self, tree, lamps):
        self.many = many_of(tree)
        self.settings = settings_of(self.many)
        self.lamps = {at: all_lamps(tree, lamps, at) for at in self.settings}
        self.shown = {at: shown_at(tree, lamps, at) for at in self.settings}

    def shows(self, settings, doubts):
        return set().union(*[self.shown[tuple(at)] for at in settings]) >= set(doubts)

    def is_right(self, at, lot):
        return self.lamps[broken(at, lot)] == self.lamps[tuple(at)]

    def let_lots(self, doubts):
        """The lots in doubt that some list that shows all deaths in doubt lets by."""
        lots = [lot for lot in all_lots(self.many) if set(lot) <= set(doubts)]
        return [lot for lot in lots if self.shows([at for at in self.settings if self.is_right(at, lot)], doubts)]
