"""What the tests share: any values, trees to try, and plain searches that hold for small boxes."""

import itertools
import random
import unittest

from deadlevers.cheap import Scale
from deadlevers.errors import BadTree, LeverError, NoLever, Refused, TooGreat
from deadlevers.grammars import Grammar
from deadlevers.nets import Net
from deadlevers.tables import Table

ATTRIBUTES = {"TooGreat": "most", "NoLever": "lever"}
COMPARED = (Table, Scale, Net, Grammar)


def nested(kind, depth, inner=0):
    """A list or tuple in itself, `depth` deep."""
    value = inner
    for _ in range(depth):
        value = kind([value])
    return value


def doubled(depth):
    """A list with 2 ** depth ends, each level there twice."""
    value = 0
    for _ in range(depth):
        value = [value, value]
    return value


def knotted(depth, word="all"):
    """What looks like a tree with far too many levers."""
    value = 0
    for _ in range(depth):
        value = [word, (value, value)]
        word = "any" if word == "all" else "all"
    return value


ANY_VALUES = (
    None, True, False, -1, 0, 1, 2, 7, 10 ** 30, -10 ** 30, "", "all", "any", "0", "a b", (), [], (0,), [0], (1,), [1],
    (True,), [False], (None,), ["all"], ("all", "any"), (0, 0), [0, 1], (1, 0), (0, 1, 2), ((0, 1),), [[0, 0]],
    [(0, True)], [(True, 0)], [(0, 2)], [(-1, 0)], [(1, 0), (0, 1)], [(0, 0), (0, 1)], [(0, 1), None], [(0,)],
    [(0, 1, 0)], ["01"], ["10"], (0, 1, 0, 1, 1), [0] * 201, [[0]] * 401, [(0, 0)] * 3,
    nested(list, 40), nested(tuple, 40), nested(list, 40, None), nested(tuple, 39, (True,)), doubled(40), knotted(20),
    ("all", ()), ("all", (0,)), ("all", 0), ("none", (0, 1)), ["all", [0, -1]], ["any", [0, True]],
    Table([0, 1]), Table([0, 0, 0, 1]), [Table([0, 1])], (Table([0, 1]), 0), BadTree(0), [Refused(None)], NoLever(1),
    Net(2, [(0, 1)]), Scale([1, 1], [0]), Grammar([[("lever",)]]),
)


def same(one, other):
    """Whether two values are equal in all their types, too; objects of other kinds only if the very same."""
    if one is other:
        return True
    if isinstance(one, (list, tuple)):
        if type(one) is not type(other) or len(one) != len(other):
            return False
        return all(map(same, one, other))
    if isinstance(one, (int, str, type(None))):
        return type(one) is type(other) and one == other
    return type(one) is type(other) and isinstance(one, COMPARED) and one == other


def has_only_tuples(value):
    """Whether there is no list within a value."""
    if isinstance(value, tuple):
        return all(map(has_only_tuples, value))
    if isinstance(value, COMPARED):
        return all(map(has_only_tuples, vars(value).values()))
    return isinstance(value, (int, str, type(None)))


class Case(unittest.TestCase):
    """A test case that holds errors and values to the last bit."""

    def fails(self, kind, worth, call, *told, **named):
        """The call raises just this error, with this very thing."""
        try:
            found = call(*told, **named)
        except (LeverError, NoLever) as error:
            self.assertIs(type(error), kind, (call.__name__, told, named))
            kept = getattr(error, ATTRIBUTES.get(kind.__name__, "at"))
            self.assertTrue(same(kept, worth), (call.__name__, told, kept, worth))
            return
        self.fail("%s%r gives %r, no %s" % (call.__name__, told, found, kind.__name__))

    def refuses(self, value, call, *told):
        """The call refuses this very object."""
        try:
            found = call(*told)
        except Refused as error:
            self.assertIs(error.at, value)
            return
        self.fail("%s%r gives %r" % (call.__name__, told, found))

    def gives(self, worth, found):
        """What was found is just this, in all its types."""
        self.assertTrue(same(found, worth), (found, worth))


# Trees.

def levers_of(tree):
    if isinstance(tree, int):
        return [tree]
    return [lever for part in tree[1] for lever in levers_of(part)]


def ordered(tree):
    """The tree with all parts by their least levers."""
    if isinstance(tree, int):
        return tree
    return (tree[0], tuple(sorted(map(ordered, tree[1]), key=lambda part: min(levers_of(part)))))


def other_word(word):
    return "any" if word == "all" else "all"


def mirror_words(tree):
    return tree if isinstance(tree, int) else (other_word(tree[0]), tuple(map(mirror_words, tree[1])))


def splits(levers):
    """All ways to part a set of levers, told as a tuple, in classes by their least levers."""
    if not levers:
        yield ()
        return
    first, rest = levers[0], levers[1:]
    for count in range(len(rest) + 1):
        for chosen in itertools.combinations(rest, count):
            left = tuple(lever for lever in rest if lever not in chosen)
            for others in splits(left):
                yield ((first,) + chosen,) + others


def parts_of(levers, word):
    """All parts with these levers that can stand in a knot of another word than this one."""
    if len(levers) == 1:
        yield levers[0]
        return
    for classes in splits(levers):
        if len(classes) > 1:
            for parts in itertools.product(*[list(parts_of(own, other_word(word))) for own in classes]):
                yield (word, parts)


def all_trees(many):
    """All trees with so many levers."""
    levers = tuple(range(many))
    if many == 1:
        return [0]
    return list(parts_of(levers, "all")) + list(parts_of(levers, "any"))


def some_trees(most):
    """All trees with up to so many levers."""
    return [tree for many in range(1, most + 1) for tree in all_trees(many)]


def drawn_part(rng, levers, word):
    if len(levers) == 1:
        return levers[0]
    cuts = sorted(rng.sample(range(1, len(levers)), rng.randint(1, min(3, len(levers) - 1))))
    pieces = [levers[start:end] for start, end in zip([0] + cuts, cuts + [len(levers)])]
    return (word, tuple(drawn_part(rng, piece, other_word(word)) for piece in pieces))


def drawn_tree(rng, many):
    """Some tree with so many levers."""
    levers = list(range(many))
    rng.shuffle(levers)
    return ordered(drawn_part(rng, levers, rng.choice(["all", "any"])))


def drawn_trees(seed, count, sizes):
    rng = random.Random(seed)
    return [drawn_tree(rng, rng.choice(sizes)) for _ in range(count)]


def drawn_setting(rng, many):
    return tuple(rng.randint(0, 1) for _ in range(many))


def drawn_list(rng, many, count):
    return [drawn_setting(rng, many) for _ in range(count)]


def drawn_lot(rng, many):
    levers = sorted(rng.sample(range(many), rng.randint(1, many)))
    return tuple((lever, rng.randint(0, 1)) for lever in levers)


def chain_tree(many, word="all"):
    """The deepest tree with so many levers, the last one deepest."""
    part = many - 1
    words = [word if at % 2 == 0 else other_word(word) for at in range(many - 1)]
    for lever in reversed(range(many - 1)):
        part = (words[lever], (lever, part))
    return part


def flat_tree(many, word="all"):
    return (word, tuple(range(many)))


def pairs_tree(many, word="all"):
    """A knot of flat knots of two levers."""
    return (word, tuple((other_word(word), (lever, lever + 1)) for lever in range(0, many, 2)))


GREAT_TREES = (chain_tree(200), chain_tree(200, "any"), flat_tree(200), flat_tree(200, "any"), pairs_tree(200),
               drawn_tree(random.Random(5), 200), drawn_tree(random.Random(6), 200))


def as_lists(value):
    """The same with lists in the place of tuples."""
    if isinstance(value, (list, tuple)):
        return [as_lists(item) for item in value]
    return value


def part_of(tree, place):
    for at in place:
        tree = tree[1][at]
    return tree


def lever_places(tree, place=()):
    """By lever its place."""
    if isinstance(tree, int):
        return {tree: place}
    found = {}
    for at, part in enumerate(tree[1]):
        found.update(lever_places(part, place + (at,)))
    return found


# Plain searches.

def many_of(tree):
    return len(levers_of(tree))


def settings_of(many):
    """All settings, ascending."""
    return list(itertools.product((0, 1), repeat=many))


def numbered_settings(many):
    """All settings by their numbers."""
    return [setting[::-1] for setting in settings_of(many)]


def lamp(tree, setting):
    if isinstance(tree, int):
        return setting[tree]
    lamps = [lamp(part, setting) for part in tree[1]]
    return min(lamps) if tree[0] == "all" else max(lamps)


def turned(setting, lever):
    return setting[:lever] + (1 - setting[lever],) + setting[lever + 1:]


def plain_hung(tree, setting):
    own = lamp(tree, setting)
    return tuple(lever for lever in range(len(setting)) if lamp(tree, turned(setting, lever)) != own)


def plain_clears(tree, setting):
    """The pairs (lever, place) that a setting clears."""
    return {(lever, setting[lever]) for lever in plain_hung(tree, setting)}


def plain_cleared(tree, settings):
    found = set()
    for setting in settings:
        found |= plain_clears(tree, setting)
    return found


def plain_counts(tree):
    """(up, down) as point 29 tells them."""
    if isinstance(tree, int):
        return (1, 1)
    counts = [plain_counts(part) for part in tree[1]]
    ups, downs = [up for up, _ in counts], [down for _, down in counts]
    return (max(ups), sum(downs)) if tree[0] == "all" else (sum(ups), max(downs))


def all_deaths(many):
    return [(lever, place) for lever in range(many) for place in (0, 1)]


def all_lots(many):
    """All lots, ascending by levers and places."""
    found = []
    for states in itertools.product((None, 0, 1), repeat=many):
        lot = tuple((lever, place) for lever, place in enumerate(states) if place is not None)
        if lot:
            found.append(lot)
    return found


def broken(setting, lot):
    places = list(setting)
    for lever, place in lot:
        places[lever] = place
    return tuple(places)


def number_of(setting):
    return sum(place * 2 ** lever for lever, place in enumerate(setting))


def table_at(table, setting):
    return table.lamps[number_of(setting)]


def table_hangs(table, setting):
    own = table_at(table, setting)
    return tuple(lever for lever in range(len(setting)) if table_at(table, turned(setting, lever)) != own)


def all_tables(many):
    return [Table(lamps) for lamps in itertools.product((0, 1), repeat=2 ** many)]


def rises(table):
    for setting in settings_of(table.levers):
        for lever in range(table.levers):
            if setting[lever] == 0 and table_at(table, setting) > table_at(table, turned(setting, lever)):
                return False
    return True


def heeds_all(table):
    heeded = set()
    for setting in settings_of(table.levers):
        heeded |= set(table_hangs(table, setting))
    return len(heeded) == table.levers


def rising_lamps(many):
    """The lamps of all rising boxes, whatever matters."""
    if many == 0:
        return [(0,), (1,)]
    lower = rising_lamps(many - 1)
    return [low + high for low in lower for high in lower if all(a <= b for a, b in zip(low, high))]


def full_tables(most):
    """All rising tables of up to so many levers, all of which matter."""
    tables = [Table(lamps) for many in range(1, most + 1) for lamps in rising_lamps(many)]
    return [table for table in tables if heeds_all(table)]


def drawn_rising(rng, many):
    """Some rising table of so many levers, all of which matter."""
    while True:
        ways = [rng.sample(range(many), rng.randint(1, max(1, many - 1))) for _ in range(rng.randint(2, 6))]
        lamps = [int(any(all(setting[lever] for lever in way) for way in ways)) for setting in numbered_settings(many)]
        table = Table(lamps)
        if heeds_all(table):
            return table


def plain_table(tree):
    return Table([lamp(tree, setting) for setting in numbered_settings(many_of(tree))])


def shown_table(table):
    """Whether all clearing lists of a full rising box show each lot: each lot's right settings clear too little."""
    many = table.levers
    settings = settings_of(many)
    clears = {setting: {(lever, setting[lever]) for lever in table_hangs(table, setting)} for setting in settings}
    for lot in all_lots(many):
        right = [at for at in settings if table_at(table, broken(at, lot)) == table_at(table, at)]
        cleared = set()
        for setting in right:
            cleared |= clears[setting]
        if len(cleared) == 2 * many:
            return False
    return True
