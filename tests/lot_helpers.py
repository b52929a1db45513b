"""Plain searches over all lots of small trees."""

from helpers import all_lots, broken, lamp, many_of, plain_clears, settings_of


class Lots:
    """All lots of a tree, by the lamps of the box that they make at all settings."""

    def __init__(self, tree):
        self.tree = tree
        self.many = many_of(tree)
        self.settings = settings_of(self.many)
        self.index = {setting: at for at, setting in enumerate(self.settings)}
        self.own = tuple(lamp(tree, setting) for setting in self.settings)
        self.clears = [plain_clears(tree, setting) for setting in self.settings]
        self.lots = all_lots(self.many)
        self.box = {lot: tuple(self.own[self.index[broken(at, lot)]] for at in self.settings) for lot in self.lots}
        self.alike = {}
        for lot in self.lots:
            self.alike.setdefault(self.box[lot], []).append(lot)
        self.right = {box: frozenset(at for at, lit in enumerate(box) if lit == self.own[at]) for box in self.alike}
        self.cleared = {box: set().union(*[self.clears[at] for at in self.right[box]]) for box in self.alike}
        self.spare = {box: min(lots, key=lambda lot: (len(lot), lot)) for box, lots in self.alike.items()}

    def is_let(self, box):
        return len(self.cleared[box]) == 2 * self.many

    def is_sharp(self, box):
        return self.is_let(box) and not any(other != box and right >= self.right[box] for other, right in self.right.items())

    def sharp_boxes(self):
        return [box for box in self.alike if self.is_sharp(box)]

    def sizes(self, lots):
        """By count of levers how many of these lots there are, () for none."""
        counts = [sum(len(lot) == count for lot in lots) for count in range(self.many + 1)]
        while counts and counts[-1] == 0:
            counts.pop()
        return tuple(counts)

    def errors(self):
        """By least error set the boxes that have it."""
        found = {}
        for box, right in self.right.items():
            found.setdefault(frozenset(range(len(self.settings))) - right, []).append(box)
        return {wrong: boxes for wrong, boxes in found.items() if wrong and
                not any(other and other < wrong for other in found)}

    def shows(self, settings, lot):
        """Whether a list has a wrong lamp with a lot dead."""
        return not {self.index[at] for at in settings} <= self.right[self.box[lot]]
