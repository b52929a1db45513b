"""Nets all of whose taps matter: their nodes in an order, ways and cuts by it, and all ways and least cuts."""

from deadlevers.columns import full_column
from deadlevers.masks import low_mask, up_mask
from deadlevers.nets import all_beside, net_mask
from deadlevers.netways import BlockSearch
from deadlevers.trials import bit_indexes


def node_order(net):
    """The nodes from 0 to 1, each other one with taps to some ahead of it and to some behind it.

    Each node is put beside the one from which it was found, on the side that looks to the node to
    which taps lead back (Tarjan 1986).
    """
    search = BlockSearch(all_beside(net))
    nodes = list(search.order)
    order = [0, 1]
    looks_ahead = {0: True}
    for node in nodes[2:]:
        found = search.ahead[node]
        ahead = looks_ahead[nodes[search.low[node]]]
        order.insert(order.index(found) + (0 if ahead else 1), node)
        looks_ahead[found] = not ahead
    return order


class OrderedNet:
    """A net whose nodes stand in an order; by node a tap to one behind it, and to one ahead of it."""

    def __init__(self, net):
        order = node_order(net)
        ranks = {node: rank for rank, node in enumerate(order)}
        self.taps = [(one, other) if ranks[one] < ranks[other] else (other, one) for one, other in net.taps]
        self.spans = [(ranks[one], ranks[other]) for one, other in self.taps]
        self.onward = {one: tap for tap, (one, _) in enumerate(self.taps)}
        self.back = {other: tap for tap, (_, other) in enumerate(self.taps)}
        self.last = len(order) - 1

    def way_with(self, tap):
        """The taps of a way through one."""
        way = [tap]
        first, last = self.taps[tap]
        while first != 0:
            way.append(self.back[first])
            first = self.taps[way[-1]][0]
        while last != 1:
            way.append(self.onward[last])
            last = self.taps[way[-1]][1]
        return way

    def found_ways(self):
        """Ways that together pass all taps, each some that the ones ahead of it do not."""
        found = []
        passed = {}
        for tap in range(len(self.taps)):
            if tap not in passed:
                found.append(self.way_with(tap))
                for step in found[-1]:
                    passed[step] = True
        return found

    def found_cuts(self):
        """Least cuts that together hold all taps, each some that the ones ahead of it do not."""
        found = []
        held = {}
        for rank in range(self.last):
            cut = [tap for tap, (low, high) in enumerate(self.spans) if low <= rank < high]
            if not all([tap in held for tap in cut]):
                found.append(cut)
                for tap in cut:
                    held[tap] = True
        return found


def all_ways(net):
    """All ways, each as its ascending taps."""
    many = len(net.taps)
    mask = net_mask(net)
    needless = 0
    for tap in range(many):
        needless |= (mask & low_mask(tap, many)) << (1 << tap)
    return [bit_indexes(number) for number in bit_indexes(mask & ~needless)]


def all_cuts(net):
    """All least cuts, as ascending taps."""
    many = len(net.taps)
    dark = full_column(1 << many) ^ net_mask(net)
    needless = 0
    for tap in range(many):
        needless |= (dark & up_mask(tap, many)) >> (1 << tap)
    return [bit_indexes(full_column(many) ^ number) for number in bit_indexes(dark & ~needless)]
