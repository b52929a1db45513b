"""Edits of trees, plainly."""

from helpers import drawn_tree, levers_of, many_of, other_word, part_of


def with_part(tree, place, part):
    """The tree with another part at a place, None for none; nothing joined yet."""
    if not place:
        return part
    word, parts = tree
    at = place[0]
    return (word, parts[:at] + (with_part(parts[at], place[1:], part),) + parts[at + 1:])


def normal(tree):
    """Like words joined, knots of one part taken away, parts in order."""
    if isinstance(tree, int) or tree is None:
        return tree
    parts = []
    for part in map(normal, tree[1]):
        if part is not None:
            parts += part[1] if not isinstance(part, int) and part[0] == tree[0] else (part,)
    if len(parts) == 1:
        return parts[0]
    return (tree[0], tuple(sorted(parts, key=lambda part: min(levers_of(part)))))


def named(tree, numbers):
    return numbers[tree] if isinstance(tree, int) else (tree[0], tuple(named(part, numbers) for part in tree[1]))


def settled(tree):
    """The tree as it is behind an edit: levers numbered anew, in their order."""
    made = normal(tree)
    return named(made, {lever: at for at, lever in enumerate(sorted(levers_of(made)))})


def moved(tree, first, many):
    """A tree whose lever 0 gets a number, the others those behind all of `many`."""
    return named(tree, {lever: first if lever == 0 else many + lever - 1 for lever in range(many_of(tree))})


def place_of(tree, lever, place=()):
    if isinstance(tree, int):
        return place if tree == lever else None
    found = [place_of(part, lever, place + (at,)) for at, part in enumerate(tree[1])]
    return next((way for way in found if way is not None), None)


def grown(tree, lever, other):
    return settled(with_part(tree, place_of(tree, lever), moved(other, lever, many_of(tree))))


def put_beside(tree, place, word, other):
    behind = moved(other, many_of(tree), many_of(tree) + 1)
    return settled(with_part(tree, place, (word, (part_of(tree, place), behind))))


def taken_out(tree, place):
    return settled(with_part(tree, place, None))


def cut(tree, place):
    return settled(with_part(tree, place, min(levers_of(part_of(tree, place)))))


def turned_knot(tree, place):
    word, parts = part_of(tree, place)
    return settled(with_part(tree, place, (other_word(word), parts)))


def all_places(tree, place=()):
    if isinstance(tree, int):
        return [place]
    return [place] + [inner for at, part in enumerate(tree[1]) for inner in all_places(part, place + (at,))]


def knot_places(tree):
    return [place for place in all_places(tree) if not isinstance(part_of(tree, place), int)]


def drawn_deed(rng, tree, most=9):
    """(name of the deed, arguments, (tree, way) behind it or None for a trial or a pause)."""
    places, knots = all_places(tree), knot_places(tree)
    kinds = ["see", "see", "pause"]
    if many_of(tree) < most:
        kinds += ["grow", "put_beside"]
    if knots:
        kinds += ["take_out", "cut_part", "turn_knot"]
    kind = rng.choice(kinds)
    other = drawn_tree(rng, rng.randint(1, 3))
    if kind == "see":
        return (kind, [[rng.randint(0, 1) for _ in range(many_of(tree))], rng.randint(0, 1)], None)
    if kind == "pause":
        return (kind, [], None)
    if kind == "grow":
        lever = rng.randrange(many_of(tree))
        return (kind, [lever, other], (grown(tree, lever, other), "more"))
    if kind == "put_beside":
        place, word = rng.choice(places), rng.choice(["all", "any"])
        return (kind, [place, word, other], (put_beside(tree, place, word, other), "more"))
    if kind == "take_out":
        place = rng.choice([place for place in places if place])
        return (kind, [place], (taken_out(tree, place), "less"))
    place = rng.choice(knots)
    if kind == "cut_part":
        return (kind, [place], (cut(tree, place), "less"))
    return (kind, [place], (turned_knot(tree, place), "other"))


class PlainLive:
    """A copy of a live tree: its states, one behind another, and where one stands among them."""

    def __init__(self, tree):
        self.states = [(tree, ((),), ())]
        self.at = 0

    def now(self):
        return self.states[self.at]

    def put(self, state):
        self.states = self.states[:self.at + 1] + [state]
        self.at += 1

    def deed(self, kind, told, behind):
        tree, log, ways = self.now()
        if kind == "see":
            log = log[:-1] + (log[-1] + ((tuple(told[0]), told[1]),),)
        elif kind == "pause":
            log = log + ((),)
        else:
            tree, log, ways = behind[0], ((),), ways + (behind[1],)
        self.put((tree, log, ways))

    def undo(self):
        self.at -= self.at > 0

    def redo(self):
        self.at += self.at < len(self.states) - 1
