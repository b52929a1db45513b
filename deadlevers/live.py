"""A tree that is edited and tried, deed by deed."""

from deadlevers.court import is_honest
from deadlevers.edits import moved_part, with_part
from deadlevers.errors import BadTree, Refused
from deadlevers.fewlamps import least_lamps, least_looks
from deadlevers.sharp import catch_number, error_number
from deadlevers.trees import check_setting, check_tree, joined
from deadlevers.updown import trial_counts
from deadlevers.values import check_lever, is_below, is_word
from deadlevers.walks import MOST_LEVERS, least_levers, row_at, row_parts, tree_walk
from deadlevers.wear import wear_words


def figures(tree):
    """(1 or 0, whether it is honest; up; down; `catch_number`; `error_number`; how many lamps, how many looks)."""
    up, down = trial_counts(tree)
    honest = 1 if is_honest(tree) else 0
    return (honest, up, down, catch_number(tree), error_number(tree), len(least_lamps(tree)), len(least_looks(tree)))


def check_count(many):
    """Raise BadTree for more levers than a tree can have."""
    if many > MOST_LEVERS:
        raise BadTree(0)


class Live:
    """A tree, the log of its trials since the last edit, and which way each edit went.

    `done` has what was there ahead of each deed, `taken` what was there ahead of each undo.
    """

    def __init__(self, tree):
        self.tree = check_tree(tree)
        self.log = ((),)
        self.ways = ()
        self.done = ()
        self.taken = ()

    def state(self):
        """What a deed changes."""
        return (self.tree, self.log, self.ways)

    def put_deed(self, tree, log, ways):
        """Change this, so that it can be taken back."""
        self.done = self.done + (self.state(),)
        self.taken = ()
        self.tree = tree
        self.log = log
        self.ways = ways

    def put_edit(self, walk, row, part, way):
        """Put another part in the place of one, None for none."""
        self.put_deed(with_part(walk, row, part), ((),), self.ways + (way,))

    def knot_row(self, walk, place):
        """The row of a knot at any value that is its place; else Refused."""
        row = row_at(walk, place)
        if row < 0 or not walk.parts[row]:
            raise Refused(place)
        return row

    def grow(self, lever, tree):
        """Put a tree in the place of a lever."""
        walk = tree_walk(self.tree)
        check_lever(lever, walk.many)
        other = tree_walk(tree)
        check_count(walk.many + other.many - 1)
        self.put_edit(walk, walk.rows[lever], moved_part(other, lever, walk.many), "more")

    def put_beside(self, place, word, tree):
        """Put a tree beside the part at a place, under one word."""
        walk = tree_walk(self.tree)
        row = row_at(walk, place)
        if row < 0:
            raise Refused(place)
        if not is_word(word):
            raise Refused(word)
        other = tree_walk(tree)
        check_count(walk.many + other.many)
        part = joined(word, (row_parts(walk)[row], moved_part(other, walk.many, walk.many + 1)))
        self.put_edit(walk, row, part, "more")

    def take_out(self, place):
        """Take the part at a place out."""
        walk = tree_walk(self.tree)
        row = row_at(walk, place)
        if row <= 0:
            raise Refused(place)
        self.put_edit(walk, row, None, "less")

    def cut_part(self, place):
        """Let a knot become its least lever."""
        walk = tree_walk(self.tree)
        row = self.knot_row(walk, place)
        self.put_edit(walk, row, least_levers(walk)[row], "less")

    def turn_knot(self, place):
        """Give a knot the other word."""
        walk = tree_walk(self.tree)
        row = self.knot_row(walk, place)
        word, parts = row_parts(walk)[row]
        self.put_edit(walk, row, joined("any" if word == "all" else "all", parts), "other")

    def see(self, setting, lamp):
        """Put a trial to the last stretch."""
        places = check_setting(setting, tree_walk(self.tree).many)
        if not is_below(lamp, 2):
            raise Refused(lamp)
        stretch = self.log[-1] + ((places, lamp),)
        self.put_deed(self.tree, self.log[:-1] + (stretch,), self.ways)

    def pause(self):
        """Begin a new stretch."""
        self.put_deed(self.tree, self.log + ((),), self.ways)

    def what_is_sure(self):
        """By stretch, by lever, what it must be in all stories, or None."""
        return wear_words(self.tree, self.log)

    def undo(self):
        """Take the last deed back; whether there was one."""
        if not self.done:
            return False
        self.taken = self.taken + (self.state(),)
        self.tree, self.log, self.ways = self.done[-1]
        self.done = self.done[:-1]
        return True

    def redo(self):
        """Do the last deed that was taken back again; whether there was one."""
        if not self.taken:
            return False
        self.done = self.done + (self.state(),)
        self.tree, self.log, self.ways = self.taken[-1]
        self.taken = self.taken[:-1]
        return True

    def within(self, work):
        """What work returns of this tree, or its error; then all is as before."""
        tree = self.tree
        log = self.log
        ways = self.ways
        done = self.done
        taken = self.taken
        try:
            return work(self)
        finally:
            self.tree = tree
            self.log = log
            self.ways = ways
            self.done = done
            self.taken = taken
