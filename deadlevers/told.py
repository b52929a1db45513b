"""What trials tell knot by knot, whichever levers are dead."""

from deadlevers.columns import clear_columns, filled_setting, lamp_columns, list_columns
from deadlevers.hanging import lever_bits
from deadlevers.seen import check_trials
from deadlevers.trees import check_list
from deadlevers.trials import open_wishes
from deadlevers.walks import inner_first, tree_walk
from deadlevers.wishes import dearest_levers


def standings(walk, settings):
    """By row, by setting a number for how the levers of the part stand there."""
    found = [[]] * len(walk.words)
    for row in inner_first(walk):
        if not walk.parts[row]:
            found[row] = [setting[walk.levers[row]] for setting in settings]
        else:
            numbers = {}
            found[row] = []
            for at in range(len(settings)):
                key = tuple([found[part][at] for part in walk.parts[row]])
                found[row].append(numbers.setdefault(key, len(numbers)))
    return found


class Telling:
    """What the parts of a tree are told to show at some settings, by row and by how their levers stand."""

    def __init__(self, walk, settings):
        self.walk = walk
        self.standings = standings(walk, settings)
        self.told = [{} for _ in walk.words]

    def tell_whole(self, lamps):
        """Tell the whole tree its lamps; whether none is told both."""
        for standing, lamp in zip(self.standings[0], lamps):
            if self.told[0].setdefault(standing, lamp) != lamp:
                return False
        return True

    def tell_parts(self, row):
        """Tell the parts of a knot; whether it is not told what all of them are told to deny."""
        passing = 1 if self.walk.words[row] == "all" else 0
        denied = {}
        for at, standing in enumerate(self.standings[row]):
            if self.told[row].get(standing) == passing:
                for part in self.walk.parts[row]:
                    self.told[part][self.standings[part][at]] = passing
            elif standing in self.told[row]:
                denied[standing] = at
        for at in denied.values():
            left = [part for part in self.walk.parts[row] if self.told[part].get(self.standings[part][at]) != passing]
            if not left:
                return False
            if len(left) == 1:
                self.told[left[0]][self.standings[left[0]][at]] = 1 - passing
        return True

    def triples(self):
        """The triples (lever, where it stands, what it is told to show there)."""
        return tuple([
            (lever, place, self.told[self.walk.rows[lever]][place])
            for lever in range(self.walk.many) for place in (0, 1) if place in self.told[self.walk.rows[lever]]
        ])


def told_triples(walk, settings, lamps):
    """The triples (lever, where it stands, what it is told to show there), or None."""
    telling = Telling(walk, settings)
    if not telling.tell_whole(lamps):
        return None
    for row, parts in enumerate(walk.parts):
        if parts and not telling.tell_parts(row):
            return None
    return telling.triples()


def told_shows(tree, trials):
    """The triples (lever, where it stands, what it is told to show there), or None if nothing fits."""
    walk = tree_walk(tree)
    told = check_trials(trials, walk.many)
    return told_triples(walk, [setting for setting, _ in told], [lamp for _, lamp in told])


def is_telling(tree, settings):
    """Whether a list, if all lamps are right, tells both places of each lever."""
    walk = tree_walk(tree)
    told = check_list(settings, walk.many)
    lamps = lamp_columns(walk, list_columns(told, walk.many))[0]
    triples = told_triples(walk, told, [lamps >> at & 1 for at in range(len(told))])
    return len(triples) == 2 * walk.many


def best_trial(tree, settings):
    """A setting that clears most of what a list does not clear, and how much of it."""
    walk = tree_walk(tree)
    clears = clear_columns(walk, check_list(settings, walk.many))
    found = []
    for place in (0, 1):
        levers = dearest_levers(walk, open_wishes(clears, place), 1 - place)
        found.append((filled_setting(walk, lever_bits(levers), place, walk.many), len(levers)))
    return found[1] if found[1][1] > found[0][1] else found[0]
