"""How often levers are to be cleared in a place, and the fewest settings that do it."""

from deadlevers.columns import filled_setting
from deadlevers.hanging import BARRING_WORDS
from deadlevers.walks import inner_first


def rows_wished(walk, wishes, place):
    """By row how many settings the levers of the part want: no setting clears two barred ones."""
    counts = [0] * len(walk.words)
    for row in inner_first(walk):
        wanted = [counts[part] for part in walk.parts[row]]
        if not wanted:
            counts[row] = wishes[walk.levers[row]]
        elif walk.words[row] == BARRING_WORDS[place]:
            counts[row] = sum(wanted)
        else:
            counts[row] = max(wanted)
    return counts


def first_dearest(counts, parts):
    """Of some rows the first one with the greatest count."""
    best = parts[0]
    for part in parts[1:]:
        if counts[part] > counts[best]:
            best = part
    return best


def dearest_levers(walk, wishes, place):
    """Levers of which no setting clears two in the place, with the greatest sum of wishes."""
    counts = rows_wished(walk, wishes, place)
    waiting = [0]
    dear = []
    while waiting:
        row = waiting.pop()
        parts = walk.parts[row]
        if not parts:
            dear.append(walk.levers[row])
        elif walk.words[row] == BARRING_WORDS[place]:
            waiting.extend(parts)
        else:
            waiting.append(first_dearest(counts, parts))
    return [lever for lever in sorted(dear) if wishes[lever] > 0]


def together(targets):
    """Rows of targets one beside another: the first ones of all in one, and so on."""
    made = [0] * max([len(own) for own in targets])
    for own in targets:
        for at, bits in enumerate(own):
            made[at] |= bits
    return made


def wish_targets(walk, wishes, place):
    """The fewest targets, levers to be cleared by one setting as bits, that fulfil the wishes."""
    targets = [[] for _ in walk.words]
    for row in inner_first(walk):
        own = [targets[part] for part in walk.parts[row]]
        if not own:
            lever = walk.levers[row]
            targets[row] = [1 << lever] * wishes[lever]
        elif walk.words[row] == BARRING_WORDS[place]:
            targets[row] = [bits for part in own for bits in part]
        else:
            targets[row] = together(own)
    return targets[0]


def wish_settings(walk, wishes, place):
    """The fewest settings that fulfil the wishes."""
    targets = wish_targets(walk, wishes, place)
    return tuple([filled_setting(walk, bits, place, walk.many) for bits in targets])
