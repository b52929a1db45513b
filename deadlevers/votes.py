"""Polls: trees with votes, the settings that clear their levers, and why there are no fewer."""

from deadlevers.errors import PaperFault, TooGreat
from deadlevers.faults import at_least_column
from deadlevers.masks import number_bits, up_mask
from deadlevers.pollwalks import poll_parts, poll_walk
from deadlevers.tables import MOST_TABLE_LEVERS, Table, number_setting
from deadlevers.trees import MOST_SETTINGS, check_setting, first_wrong_place
from deadlevers.values import has_length, is_below, is_number, is_sequence
from deadlevers.walks import inner_first


def check_poll(value):
    """Any value that is a poll, as tuples; else BadTree."""
    return poll_parts(poll_walk(value))[0]


def poll_levers(poll):
    """How many levers it has."""
    return poll_walk(poll).many


def poll_columns(walk, columns):
    """By row the column of the part's lamp, from those of the levers."""
    lamps = [0] * len(walk.words)
    for row in inner_first(walk):
        if walk.parts[row]:
            lamps[row] = at_least_column([lamps[part] for part in walk.parts[row]], walk.asked[row])
        else:
            lamps[row] = columns[walk.levers[row]]
    return lamps


def poll_lamp(poll, setting):
    """The lamp at a setting."""
    walk = poll_walk(poll)
    return poll_columns(walk, check_setting(setting, walk.many))[0]


def hung_rows(walk, lamps):
    """By row whether the lamp of the whole poll hangs on the part, from the lamps at one setting."""
    hung = [True] * len(lamps)
    for row, parts in enumerate(walk.parts):
        spare = sum([lamps[part] for part in parts]) - walk.asked[row]
        for part in parts:
            # One lamp less puts the knot out, or one lamp more lights it.
            hung[part] = hung[row] and spare == lamps[part] - 1
    return hung


def hanging_levers(walk, lamps):
    """The levers on which the lamp hangs, from the lamps at one setting."""
    hung = hung_rows(walk, lamps)
    return tuple([lever for lever in range(walk.many) if hung[walk.rows[lever]]])


def poll_hanging(poll, setting):
    """The levers on which the lamp hangs at a setting."""
    walk = poll_walk(poll)
    return hanging_levers(walk, poll_columns(walk, check_setting(setting, walk.many)))


def poll_table(poll):
    """The table of a poll."""
    walk = poll_walk(poll)
    if walk.many > MOST_TABLE_LEVERS:
        raise TooGreat(MOST_TABLE_LEVERS)
    columns = [up_mask(lever, walk.many) for lever in range(walk.many)]
    return Table(number_bits(poll_columns(walk, columns)[0], 1 << walk.many))


def shared_number(walk, row, place):
    """Of how many parts of a knot each of its settings can clear levers in a place."""
    return walk.asked[row] if place == 1 else len(walk.parts[row]) - walk.asked[row] + 1


def divided(numbers, shared):
    """Their sum divided, rounded up."""
    return (sum(numbers) + shared - 1) // shared


def row_sizes(walk, place):
    """By row the fewest settings that clear all levers of the part in a place."""
    sizes = [1] * len(walk.words)
    for row in inner_first(walk):
        inner = [sizes[part] for part in walk.parts[row]]
        if inner:
            sizes[row] = max(max(inner), divided(inner, shared_number(walk, row, place)))
    return sizes


def poll_sizes(poll):
    """The fewest settings that clear all levers up, and the fewest that clear all down."""
    walk = poll_walk(poll)
    return (row_sizes(walk, 1)[0], row_sizes(walk, 0)[0])


def turns_of(sizes, shared, count):
    """By part in which of `count` settings it has its turn: in as many as its size, in each setting so many."""
    more = shared * count - sum(sizes)
    turns = []
    start = 0
    for size in sizes:
        added = min(more, count - size)
        more -= added
        # One part behind the other, round and round: so none comes twice to one setting.
        turns.append([(start + step) % count for step in range(size + added)])
        start += size + added
    return turns


def knot_numbers(own, others, shared, count):
    """The settings of a knot: each part at its own ones at its turns, else at its first one of `others`."""
    numbers = [0] * count
    turns = turns_of([len(part) for part in own], shared, count)
    for settings, fills, at_turn in zip(own, others, turns):
        for at in range(count):
            if at not in at_turn:
                numbers[at] |= fills[0]
        for step, at in enumerate(at_turn):
            numbers[at] |= settings[step] if step < len(settings) else settings[0]
    return numbers


def clearing_numbers(walk):
    """The fewest settings, a bit by lever, that clear all levers up, and those that clear all down."""
    sizes = (row_sizes(walk, 0), row_sizes(walk, 1))
    found = [([], [])] * len(walk.words)
    for row in inner_first(walk):
        parts = walk.parts[row]
        if parts:
            ups = [found[part][0] for part in parts]
            downs = [found[part][1] for part in parts]
            found[row] = (
                knot_numbers(ups, downs, shared_number(walk, row, 1), sizes[1][row]),
                knot_numbers(downs, ups, shared_number(walk, row, 0), sizes[0][row]),
            )
        else:
            found[row] = ([1 << walk.levers[row]], [0])
    return found[0]


def walk_list(walk):
    """The fewest (up settings, down settings) that clear all levers."""
    return tuple([
        tuple([number_setting(number, walk.many) for number in numbers]) for numbers in clearing_numbers(walk)
    ])


def poll_list(poll):
    """The fewest (up settings, down settings) that clear all levers."""
    return walk_list(poll_walk(poll))


def knot_rows(walk):
    """The rows of the knots."""
    return [row for row, parts in enumerate(walk.parts) if parts]


def reasons_of(walk, place):
    """By knot why there are no fewer settings: the index of a part that wants so many, or None."""
    sizes = row_sizes(walk, place)
    reasons = []
    for row in knot_rows(walk):
        inner = [sizes[part] for part in walk.parts[row]]
        reasons.append(inner.index(sizes[row]) if sizes[row] in inner else None)
    return tuple(reasons)


def poll_paper(poll):
    """("poll", ups, downs, up reasons, down reasons): the fewest settings, and why there are no fewer."""
    walk = poll_walk(poll)
    return ("poll",) + walk_list(walk) + (reasons_of(walk, 1), reasons_of(walk, 0))


def are_settings(value, many):
    """Whether any value is a list of settings of `many` levers."""
    if not is_sequence(value) or len(value) > MOST_SETTINGS:
        return False
    return all([first_wrong_place(setting, many) is None for setting in value])


def are_reasons(value, count):
    """Whether any value is a sequence of a number or None for each of so many knots."""
    return has_length(value, count) and all([reason is None or is_number(reason) for reason in value])


def has_paper_form(walk, value):
    """Whether any value has the form of a paper."""
    if not has_length(value, 5) or value[0] != "poll":
        return False
    if not are_settings(value[1], walk.many) or not are_settings(value[2], walk.many):
        return False
    count = len(knot_rows(walk))
    return are_reasons(value[3], count) and are_reasons(value[4], count)


def clears_levers(walk, settings, place):
    """Whether the lamp is as the place at all of some settings, and they clear all levers in it."""
    cleared = {}
    for setting in settings:
        lamps = poll_columns(walk, setting)
        if lamps[0] != place:
            return False
        for lever in hanging_levers(walk, lamps):
            cleared[lever] = True
    return len(cleared) == walk.many


def reasoned_size(walk, reasons, place):
    """What reasons come to at the whole poll; None if one is no index of a part."""
    sizes = [1] * len(walk.words)
    for row, reason in list(zip(knot_rows(walk), reasons))[::-1]:
        inner = [sizes[part] for part in walk.parts[row]]
        if reason is None:
            sizes[row] = divided(inner, shared_number(walk, row, place))
        elif is_below(reason, len(inner)):
            sizes[row] = inner[reason]
        else:
            return None
    return sizes[0]


def check_poll_paper(poll, value):
    """Raise PaperFault for any value that is no paper of the poll."""
    walk = poll_walk(poll)
    if not has_paper_form(walk, value):
        raise PaperFault(0)
    for at, place in ((1, 1), (2, 0)):
        if not clears_levers(walk, value[at], place):
            raise PaperFault(at)
    for at, place in ((3, 1), (4, 0)):
        if reasoned_size(walk, value[at], place) != len(value[at - 2]):
            raise PaperFault(at)


def poll_holds(poll, value):
    """Whether any value is a paper of the poll."""
    try:
        check_poll_paper(poll, value)
    except PaperFault:
        return False
    return True
