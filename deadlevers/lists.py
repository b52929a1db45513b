"""Lists with the fewest settings, and how many there are."""

from math import comb, factorial

from deadlevers.burning import FREE, product_of, ways_by_row
from deadlevers.errors import Refused
from deadlevers.hanging import lever_bits
from deadlevers.tables import number_setting
from deadlevers.trees import check_tree, is_death, mirror_tree
from deadlevers.updown import trial_counts
from deadlevers.values import is_below, is_sequence
from deadlevers.walks import inner_first, levers_by_row, tree_walk

MOST_ROWS = 60


def first_or(own, fill):
    """The first of a part's settings, or what stands in its place."""
    if own:
        return own[0]
    return fill


def beside_each_other(parts, fills):
    """Settings of all parts at once; a part with fewer is at its first then."""
    made = []
    for at in range(max([len(own) for own in parts])):
        setting = 0
        for own, fill in zip(parts, fills):
            setting |= own[at] if at < len(own) else first_or(own, fill)
        made.append(setting)
    return made


def one_by_one(parts, firsts):
    """Settings part by part; each other part is at its setting of `firsts`."""
    made = []
    for at, own in enumerate(parts):
        around = 0
        for beside, first in enumerate(firsts):
            if beside != at:
                around |= first
        made.extend([setting | around for setting in own])
    return made


def listed_rows(walk, ups, downs, covers):
    """By row its (ups, downs), from those of the levers; all as integers with a bit by lever.

    Where some part of an "all" is dark, the others are at the first of their ups; in `covers`
    stands by row where one is instead.
    """
    full = [lever_bits(levers) for levers in levers_by_row(walk)]
    found = [([], [])] * len(walk.words)
    for row in inner_first(walk):
        parts = walk.parts[row]
        if not parts:
            found[row] = (ups[walk.levers[row]], downs[walk.levers[row]])
        else:
            highs = [found[part][0] for part in parts]
            lows = [found[part][1] for part in parts]
            up = [full[part] for part in parts]
            down = [0] * len(parts)
            if walk.words[row] == "all":
                firsts = [covers.get(part, first_or(found[part][0], full[part])) for part in parts]
                found[row] = (beside_each_other(highs, up), one_by_one(lows, firsts))
            else:
                firsts = [first_or(own, 0) for own in lows]
                found[row] = (one_by_one(highs, firsts), beside_each_other(lows, down))
    return found


def all_listed(walk, covers):
    """The (ups, downs) by row for all dead levers."""
    ups = [[1 << lever] for lever in range(walk.many)]
    return listed_rows(walk, ups, [[0]] * walk.many, covers)


def list_paper(made, many):
    """("list", ups, downs) as settings."""
    rows = [tuple([number_setting(number, many) for number in numbers]) for numbers in made]
    return ("list", rows[0], rows[1])


def least_list(tree):
    """("list", ups, downs): one list with the fewest settings for all dead levers."""
    walk = tree_walk(tree)
    return list_paper(all_listed(walk, {})[0], walk.many)


def are_doubts(value, many):
    """Whether any value is an ascending sequence of unlike pairs of a lever and a place."""
    if not is_sequence(value):
        return False
    last = (-1, 0)
    for death in value:
        if not is_death(death, many) or tuple(death) <= last:
            return False
        last = tuple(death)
    return True


def doubts_listed(walk, doubts):
    """The (ups, downs) by row for dead levers of which just these are in doubt."""
    ups = [[] for _ in range(walk.many)]
    downs = [[] for _ in range(walk.many)]
    for lever, place in doubts:
        if place == 0:
            ups[lever] = [1 << lever]
        else:
            downs[lever] = [0]
    return listed_rows(walk, ups, downs, {})


def doubtful_list(tree, doubts):
    """("list", ups, downs) for dead levers of which just these are in doubt."""
    walk = tree_walk(tree)
    if not are_doubts(doubts, walk.many):
        raise Refused(doubts)
    return list_paper(doubts_listed(walk, doubts)[0], walk.many)


def powers(base, many):
    """Its powers from 0 to `many`."""
    made = [1]
    for _ in range(many):
        made.append(made[-1] * base)
    return made


def mixed_rows(one, other):
    """Rows of which some are of one kind, the rest of another; all by their lengths."""
    return [
        sum([comb(length, taken) * one[taken] * other[length - taken] for taken in range(length + 1)])
        for length in range(len(one))
    ]


def any_rows(rows, ways, many):
    """By length the rows of an "any" knot, from those of its parts and their (dark, burning)."""
    dark = product_of([way[0] for way in ways])
    alone = sum([dark // way[0] * way[1] for way in ways])
    whole = product_of([way[0] + way[1] for way in ways])
    # With two burning parts nothing is cleared; with one, what this part's own rows clear.
    made = powers(whole - dark - alone, many)
    for own, way in zip(rows, ways):
        others = powers(dark // way[0], many)
        made = mixed_rows(made, [count * power for count, power in zip(own, others)])
    return made


def all_rows(rows, many):
    """By length the rows of an "all" knot, from those of its parts."""
    return [product_of([own[length] for own in rows]) for length in range(many + 1)]


def burning_rows(tree, many):
    """How many rows of `many` settings with a burning lamp clear each lever up."""
    walk = tree_walk(tree)
    ways = ways_by_row(walk, [FREE] * walk.many)
    found = [[]] * len(walk.words)
    for row in inner_first(walk):
        parts = walk.parts[row]
        if not parts:
            found[row] = [0] + [1] * many
        elif walk.words[row] == "all":
            found[row] = all_rows([found[part] for part in parts], many)
        else:
            found[row] = any_rows([found[part] for part in parts], [ways[part] for part in parts], many)
    return found[0][many]


def check_many(many):
    """Raise Refused for any value that is no number to 60."""
    if not is_below(many, MOST_ROWS + 1):
        raise Refused(many)


def up_rows(tree, many):
    """How many rows of `many` settings with a burning lamp clear each lever up."""
    whole = check_tree(tree)
    check_many(many)
    return burning_rows(whole, many)


def down_rows(tree, many):
    """How many rows of `many` settings with a dark lamp clear each lever down."""
    mirrored = mirror_tree(tree)
    check_many(many)
    return burning_rows(mirrored, many)


def least_lists(tree):
    """How many sets of the fewest settings clear each lever up and down."""
    up, down = trial_counts(tree)
    # So few settings clear all only if they are unlike, so each set comes in each order.
    ups = burning_rows(tree, up) // factorial(up)
    downs = burning_rows(mirror_tree(tree), down) // factorial(down)
    return ups * downs
