"""Settings at which lamps with a lot dead are right, found by what parts can show.

A part shows a pair (sound, broken): its lamp without and with the lot, told by the number
2 * sound + broken. What it can show is told by four bits, one for each pair.
"""

from deadlevers.walks import inner_first, way_down

# A lever that is alive shows (0, 0) and (1, 1), and so does a right lamp.
RIGHT_BITS = 9
# By the place of a dead lever what that shows.
DEAD_BITS = (5, 10)
# By the sound lamp of a part the pairs with it.
SOUND_BITS = (3, 12)


def joined_pair(word, one, other):
    """The pair that a knot shows if its parts show these."""
    return one & other if word == "all" else one | other


def pair_list(bits):
    """The pairs of some bits."""
    return [pair for pair in range(4) if bits >> pair & 1]


def joined_bits(word, one, other):
    """What a knot can show if its parts can show this."""
    bits = 0
    for first in pair_list(one):
        for second in pair_list(other):
            bits |= 1 << joined_pair(word, first, second)
    return bits


def ahead_bits(word, parts):
    """By count of parts what the first ones can show together."""
    found = [8 if word == "all" else 1]
    for bits in parts:
        found.append(joined_bits(word, found[-1], bits))
    return found


def chosen_pairs(parts, unlike):
    """All (pair that a "choose" shows, pairs of its parts); if `unlike`, where the sound lamps of its two are."""
    return [
        (chooser & one | (3 ^ chooser) & other, (chooser, one, other))
        for chooser in pair_list(parts[0]) for one in pair_list(parts[1]) for other in pair_list(parts[2])
        if not unlike or (one ^ other) & 2
    ]


def knot_bits(word, parts, unlike):
    """What a knot can show."""
    if word != "choose":
        return ahead_bits(word, parts)[-1]
    bits = 0
    for pair, _ in chosen_pairs(parts, unlike):
        bits |= 1 << pair
    return bits


def pair_split(word, parts, target, unlike):
    """A pair for each part so that the knot shows the target, which it can."""
    if word == "choose":
        return [pairs for pair, pairs in chosen_pairs(parts, unlike) if pair == target][0]
    ahead = ahead_bits(word, parts)
    chosen = []
    for at in reversed(range(len(parts))):
        pairs = [
            (before, pair) for before in pair_list(ahead[at]) for pair in pair_list(parts[at])
            if joined_pair(word, before, pair) == target
        ]
        target, pair = pairs[0]
        chosen.append(pair)
    return chosen[::-1]


class Witness:
    """A tree or a formula with a lot dead; lamps burn at some rows, all of which must be right.

    The whole has a lamp, whether row 0 is told or not. `shown` has by row what the part can show
    while the lamps in it are right.
    """

    def __init__(self, walk, lot, lamps):
        self.walk = walk
        self.lamps = {row: True for row in lamps}
        self.shown = [RIGHT_BITS] * len(walk.words)
        for lever, place in lot:
            self.shown[walk.rows[lever]] = DEAD_BITS[place]
        for row in inner_first(walk):
            if walk.parts[row]:
                self.put_knot(self.shown, row, False)

    def put_knot(self, bits, row, unlike):
        """Put what a knot can show to that of the parts in it."""
        made = knot_bits(self.walk.words[row], [bits[part] for part in self.walk.parts[row]], unlike)
        bits[row] = made & RIGHT_BITS if row in self.lamps else made

    def keep_hung(self, bits, row, below):
        """Leave just what parts can show while the sound lamp of a knot hangs on one; whether two must be unlike."""
        word = self.walk.words[row]
        if word != "choose":
            for part in self.walk.parts[row]:
                if part != below:
                    bits[part] &= SOUND_BITS[1 if word == "all" else 0]
        elif self.walk.ranks[below] > 0:
            bits[self.walk.parts[row][0]] &= SOUND_BITS[1 if self.walk.ranks[below] == 1 else 0]
        return word == "choose" and self.walk.ranks[below] == 0

    def clearing_bits(self, lever, place):
        """By row what can be shown while the sound lamp above hangs on a lever at a place; where two must be unlike."""
        bits = list(self.shown)
        unlike = {}
        way = way_down(self.walk, self.walk.rows[lever])[::-1]
        bits[way[0]] &= SOUND_BITS[place]
        below_lamp = False
        for below, row in zip(way, way[1:]):
            below_lamp = below_lamp or below in self.lamps
            unlike[row] = not below_lamp and self.keep_hung(bits, row, below)
            self.put_knot(bits, row, unlike[row])
        return (bits, unlike)

    def can_clear(self, lever, place):
        """Whether at some setting with right lamps the nearest one above a lever hangs on it, at a place."""
        return self.clearing_bits(lever, place)[0][0] & RIGHT_BITS != 0

    def clearing_setting(self, lever, place):
        """Such a setting, if there is one."""
        bits, unlike = self.clearing_bits(lever, place)
        walk = self.walk
        pairs = [3 if bits[0] & 8 else 0] * len(bits)
        setting = [0] * walk.many
        for row in range(len(bits)):
            parts = walk.parts[row]
            if parts:
                inner = pair_split(walk.words[row], [bits[part] for part in parts], pairs[row], unlike.get(row, False))
                for part, pair in zip(parts, inner):
                    pairs[part] = pair
            else:
                setting[walk.levers[row]] = pairs[row] >> 1
        return tuple(setting)

    def all_clearing(self, deaths):
        """By death, in which the lever is stuck at a place, a setting at which it is cleared in the other one."""
        return [self.clearing_setting(lever, 1 - place) for lever, place in deaths]


def all_deaths(many):
    """The pairs of each lever and place."""
    return [(lever, place) for lever in range(many) for place in (0, 1)]
