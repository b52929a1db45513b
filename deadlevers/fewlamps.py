"""The fewest lamps, or the fewest levers to be looked at, so that each lot in doubt is shown."""

from deadlevers.lamps import check_doubts, check_lamps
from deadlevers.twoways import first_place
from deadlevers.walks import inner_first, row_place, tree_walk

# What is seen of a part from above, a bit each: deaths at 0, at 1; whether it is two way for "all", for "any".
SEEN = (1, 2)
TWO = {"all": 4, "any": 8}
# What is noted of some parts of a knot beside that: whether a knot among them has a first lever of a pair.
KNOT_FIRST = 16


def put_shorter(found, key, chosen):
    """Put a choice to its key if it is shorter than what is there."""
    if key not in found or len(chosen) < len(found[key]):
        found[key] = chosen


def shortest_of(found):
    """The first of the shortest choices."""
    best = None
    for chosen in list(found.values()):
        if best is None or len(chosen) < len(best):
            best = chosen
    return best


def joined_bits(word, bits, part, is_knot):
    """The bits of some parts of a knot with one part more, None if it has two that are two way for its word."""
    if bits & part & TWO[word]:
        return None
    other = "any" if word == "all" else "all"
    first, second = SEEN[first_place(other)], SEEN[1 - first_place(other)]
    made = bits | part
    if bits & KNOT_FIRST and part & second or is_knot and part & first and bits & second:
        made |= TWO[other]
    if is_knot and part & first:
        made |= KNOT_FIRST
    return made


class FewSearch:
    """By row and bits the fewest rows that are chosen in the part, so that no knot in it has a fault.

    Chosen are either knots, which get a lamp, or levers, which are looked at; `lamps` are there already.
    """

    def __init__(self, walk, doubts, lamps, choosing):
        self.walk = walk
        self.doubts = {death: True for death in doubts}
        self.lamps = {row: True for row in lamps}
        self.choosing = choosing
        self.found = [{}] * len(walk.words)
        for row in inner_first(walk):
            self.found[row] = self.knot_choices(row) if walk.parts[row] else self.lever_choices(row)

    def lever_choices(self, row):
        """The choices for a lever."""
        lever = self.walk.levers[row]
        bits = sum([SEEN[place] for place in (0, 1) if (lever, place) in self.doubts])
        found = {bits: ()}
        if self.choosing == "levers":
            put_shorter(found, 0, (row,))
        return found

    def parts_choices(self, row):
        """By bits the choices for the parts of a knot together."""
        word = self.walk.words[row]
        found = {0: ()}
        for part in self.walk.parts[row]:
            more = {}
            for bits, chosen in found.items():
                for own, rows in self.found[part].items():
                    both = joined_bits(word, bits, own, bool(self.walk.parts[part]))
                    if both is not None:
                        put_shorter(more, both, chosen + rows)
            found = more
        return found

    def knot_choices(self, row):
        """The choices for a knot."""
        found = {}
        for bits, chosen in self.parts_choices(row).items():
            put_shorter(found, bits & ~KNOT_FIRST, chosen)
        if row in self.lamps:
            return {0: shortest_of(found)}
        if self.choosing == "knots" and row > 0:
            put_shorter(found, 0, shortest_of(found) + (row,))
        return found

    def fewest(self):
        """The fewest rows, ascending."""
        return sorted(shortest_of(self.found[0]))


def least_lamps(tree, *, doubts=None):
    """The fewest places of lamps with which it is sure."""
    walk = tree_walk(tree)
    rows = FewSearch(walk, check_doubts(walk, doubts), (), "knots").fewest()
    return tuple([row_place(walk, row) for row in rows])


def least_looks(tree, *, doubts=None, lamps=()):
    """The fewest levers without whose deaths among the doubts it is sure."""
    walk = tree_walk(tree)
    told = check_doubts(walk, doubts)
    rows = FewSearch(walk, told, check_lamps(walk, lamps), "levers").fewest()
    return tuple(sorted([walk.levers[row] for row in rows]))
