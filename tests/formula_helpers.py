"""Plain searches over small formulas."""

import itertools

from helpers import all_lots, broken, other_word, settings_of, turned


def is_lever(formula):
    return isinstance(formula, int) or formula[0] == "not"


def inner_of(formula):
    """The parts of a knot, by their indexes."""
    return formula[1:] if formula[0] == "choose" else formula[1]


def levers_in(formula):
    if isinstance(formula, int):
        return [formula]
    if formula[0] == "not":
        return [formula[1]]
    return [lever for part in inner_of(formula) for lever in levers_in(part)]


def count_of(formula):
    return len(levers_in(formula))


def lamp_of(formula, setting):
    if isinstance(formula, int):
        return setting[formula]
    if formula[0] == "not":
        return 1 - setting[formula[1]]
    lamps = [lamp_of(part, setting) for part in inner_of(formula)]
    if formula[0] == "choose":
        return lamps[1] if lamps[0] else lamps[2]
    return min(lamps) if formula[0] == "all" else max(lamps)


def by_least(formula):
    """The formula with the parts of "all" and "any" by their least levers."""
    if is_lever(formula):
        return formula
    parts = [by_least(part) for part in inner_of(formula)]
    if formula[0] == "choose":
        return ("choose",) + tuple(parts)
    return (formula[0], tuple(sorted(parts, key=lambda part: min(levers_in(part)))))


def drawn_knot(rng, levers, word, nots):
    if len(levers) == 1:
        return ("not", levers[0]) if rng.random() < nots else levers[0]
    kind = word if len(levers) < 3 or rng.random() < 0.55 else "choose"
    count = 3 if kind == "choose" else rng.randint(2, min(4, len(levers)))
    cuts = sorted(rng.sample(range(1, len(levers)), count - 1))
    pieces = [levers[start:end] for start, end in zip([0] + cuts, cuts + [len(levers)])]
    if kind == "choose":
        return ("choose",) + tuple(drawn_knot(rng, piece, rng.choice(["all", "any"]), nots) for piece in pieces)
    return (kind, tuple(drawn_knot(rng, piece, other_word(kind), nots) for piece in pieces))


def drawn_formula(rng, many, nots=0.3):
    """Some formula with so many levers."""
    levers = list(range(many))
    rng.shuffle(levers)
    return by_least(drawn_knot(rng, levers, rng.choice(["all", "any"]), nots))


def deep_formula(knots):
    """CHOOSE in CHOOSE, always another part of it, with so many knots."""
    part, lever = 0, 1
    for at in range(knots):
        three = [lever, ("not", lever + 1)]
        three.insert(at % 3, part)
        part, lever = ("choose",) + tuple(three), lever + 2
    return part


class PlainFormula:
    """The lamps of a formula at all settings, and what each clears."""

    def __init__(self, formula):
        self.many = count_of(formula)
        self.settings = settings_of(self.many)
        self.lamp = {at: lamp_of(formula, at) for at in self.settings}
        self.clears = {at: {(lever, at[lever]) for lever in range(self.many) if self.lamp[turned(at, lever)] != self.lamp[at]}
                       for at in self.settings}

    def cleared(self, settings):
        return set().union(*[self.clears[tuple(at)] for at in settings])

    def is_right(self, at, lot):
        return self.lamp[broken(at, lot)] == self.lamp[tuple(at)]

    def lets_by(self, lot, wanted):
        """Whether some list that clears what is wanted lets a lot by."""
        return self.cleared([at for at in self.settings if self.is_right(at, lot)]) >= wanted

    def let_lots(self):
        both = {(lever, place) for lever in range(self.many) for place in (0, 1)}
        return [lot for lot in all_lots(self.many) if self.lets_by(lot, both)]


def small_formulas(most):
    """All formulas of up to so many levers whose levers stand in order, no lever turned."""
    found = {1: [("", 0)]}
    for many in range(2, most + 1):
        found[many] = []
        for count in range(2, many + 1):
            for cuts in itertools.combinations(range(1, many), count - 1):
                sizes = [end - start for start, end in zip((0,) + cuts, cuts + (many,))]
                for parts in itertools.product(*[found[size] for size in sizes]):
                    for word in ("all", "any"):
                        if all(kind != word for kind, _ in parts):
                            found[many].append((word, (word, told(parts, sizes))))
                    if count == 3:
                        found[many].append(("choose", ("choose",) + told(parts, sizes)))
    return [formula for many in range(1, most + 1) for _, formula in found[many]]


def told(parts, sizes):
    """Parts one behind another."""
    made, first = [], 0
    for (_, part), size in zip(parts, sizes):
        made.append(moved(part, first))
        first += size
    return tuple(made)


def moved(formula, by):
    """The formula with all levers greater by so many."""
    if isinstance(formula, int):
        return formula + by
    if formula[0] == "choose":
        return ("choose",) + tuple(moved(part, by) for part in formula[1:])
    return (formula[0], tuple(moved(part, by) for part in formula[1]))
