"""Nets whose taps are joined step by step, as long as two lie side by side or one behind the other."""

from deadlevers.trees import joined


class Reducing:
    """A net all of whose taps matter, in which taps are joined.

    By tap that is left, told by the least tap that it stands for, `ends` has its two nodes and
    `parts` the part of a tree that it stands for.
    """

    def __init__(self, net):
        self.ends = {tap: (min(pair), max(pair)) for tap, pair in enumerate(net.taps)}
        self.parts = {tap: tap for tap in self.ends}

    def middle(self, one, other):
        """The node, no end, at which two taps meet, and which has no other tap; or None."""
        for node in self.ends[one]:
            if node > 1 and [tap for tap, pair in self.ends.items() if node in pair] == [one, other]:
                return node
        return None

    def join_taps(self, word, one, other):
        """Join two taps, the lesser first; whether they lie so."""
        if one not in self.ends or other not in self.ends:
            return False
        if word == "any" and self.ends[one] == self.ends[other]:
            self.put_joined(word, one, other, self.ends[one])
            return True
        node = self.middle(one, other)
        if word != "all" or node is None:
            return False
        outer = sorted([end for tap in (one, other) for end in self.ends[tap] if end != node])
        self.put_joined(word, one, other, (outer[0], outer[1]))
        return True

    def put_joined(self, word, one, other, ends):
        """Let one tap between some nodes stand for two."""
        self.ends[one] = ends
        self.parts[one] = joined(word, (self.parts[one], self.parts[other]))
        self.ends = {tap: pair for tap, pair in self.ends.items() if tap != other}

    def next_joining(self):
        """Some (word, one, other) of taps that can be joined, or None."""
        lying = {}
        meeting = {}
        for tap, pair in self.ends.items():
            if pair in lying:
                return ("any", lying[pair], tap)
            lying[pair] = tap
            for node in pair:
                meeting[node] = meeting.get(node, ()) + (tap,)
        for node, taps in meeting.items():
            if node > 1 and len(taps) == 2:
                return ("all", taps[0], taps[1])
        return None

    def join_all(self):
        """Join taps as long as two can be; what was joined."""
        steps = []
        step = self.next_joining()
        while step is not None:
            steps.append(step)
            self.join_taps(step[0], step[1], step[2])
            step = self.next_joining()
        return tuple(steps)

    def whole_part(self):
        """The part of the one tap that is left, None if more are left."""
        if len(self.ends) > 1:
            return None
        return self.parts[list(self.ends)[0]]
