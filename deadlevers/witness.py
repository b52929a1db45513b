"""Settings at which the lamp with a lot dead is right, found by what parts can show.

A part shows a pair (sound, broken): its lamp without and with the lot, told by the number
2 * sound + broken. What it can show is told by four bits, one for each pair.
"""

from deadlevers.walks import inner_first, way_down

# A lever that is alive shows (0, 0) and (1, 1); by the place of a dead one what that shows.
ALIVE_BITS = 9
DEAD_BITS = (5, 10)
# By the lamp that settles nothing at a knot the pairs with this sound lamp.
SOUND_BITS = (3, 12)


def joined_pair(word, one, other):
    """The pair that a knot shows if its parts show these."""
    return one & other if word == "all" else one | other


def pair_list(bits):
    """The pairs of some bits."""
    return [pair for pair in range(4) if bits >> pair & 1]


def joined_bits(word, one, other):
    """What a knot can show if its parts can show this."""
    bits = 0
    for first in pair_list(one):
        for second in pair_list(other):
            bits |= 1 << joined_pair(word, first, second)
    return bits


def ahead_bits(word, parts):
    """By count of parts what the first ones can show together."""
    found = [8 if word == "all" else 1]
    for bits in parts:
        found.append(joined_bits(word, found[-1], bits))
    return found


def pair_split(word, parts, target):
    """A pair for each part so that the knot shows the target, which it can."""
    ahead = ahead_bits(word, parts)
    chosen = []
    for at in reversed(range(len(parts))):
        pairs = [
            (before, pair) for before in pair_list(ahead[at]) for pair in pair_list(parts[at])
            if joined_pair(word, before, pair) == target
        ]
        target, pair = pairs[0]
        chosen.append(pair)
    return chosen[::-1]


def shown_bits(walk, lot):
    """By row what the part can show."""
    shown = [ALIVE_BITS] * len(walk.words)
    for lever, place in lot:
        shown[walk.rows[lever]] = DEAD_BITS[place]
    for row in inner_first(walk):
        if walk.parts[row]:
            shown[row] = ahead_bits(walk.words[row], [shown[part] for part in walk.parts[row]])[-1]
    return shown


def clearing_bits(walk, shown, lever, place):
    """By row what the part can show while the sound lamp hangs on the lever, and this is at a place."""
    bits = list(shown)
    way = way_down(walk, walk.rows[lever])[::-1]
    bits[way[0]] &= SOUND_BITS[place]
    for below, row in zip(way, way[1:]):
        sound = SOUND_BITS[1 if walk.words[row] == "all" else 0]
        for part in walk.parts[row]:
            if part != below:
                bits[part] &= sound
        bits[row] = ahead_bits(walk.words[row], [bits[part] for part in walk.parts[row]])[-1]
    return bits


def right_bit(place):
    """The bit of the pair in which both lamps are at the place."""
    return 8 if place == 1 else 1


def can_clear(walk, shown, lever, place):
    """Whether some setting at which the broken lamp is right clears a lever in a place."""
    return clearing_bits(walk, shown, lever, place)[0] & right_bit(place) != 0


def clearing_setting(walk, shown, lever, place):
    """A setting at which the broken lamp is right, and that clears a lever in a place, if there is one."""
    bits = clearing_bits(walk, shown, lever, place)
    pairs = [3 * place] * len(bits)
    setting = [0] * walk.many
    for row in range(len(bits)):
        parts = walk.parts[row]
        if parts:
            inner = pair_split(walk.words[row], [bits[part] for part in parts], pairs[row])
            for part, pair in zip(parts, inner):
                pairs[part] = pair
        else:
            setting[walk.levers[row]] = pairs[row] >> 1
    return tuple(setting)
