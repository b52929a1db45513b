"""How many boxes of a tree's shape show given lamps at some settings, and one of them.

Boxes whose lamp never changes are left aside. Small parts are known by all the columns that their
boxes can have; of the whole tree, and of the greatest part of each great one, only those boxes are
counted that show what is wanted where it is wanted.
"""

from deadlevers.errors import TooGreat
from deadlevers.faults import own_plains
from deadlevers.shapes import changing_numbers
from deadlevers.sides import RisingSides, RuleBook, alone_fault, beside_fault, put_count, word_sides
from deadlevers.walks import inner_first, levers_by_row

SMALL_PART = 6


class ShownBoxes:
    """The count for a tree, some kinds, the columns of the levers and of the lamps wanted, `most`."""

    def __init__(self, walk, kinds, columns, target, full, most):
        self.walk = walk
        self.kinds = kinds
        self.columns = columns
        self.target = target
        self.full = full
        self.most = most
        self.levers = [len(levers) for levers in levers_by_row(walk)]
        self.book = RuleBook()
        self.counted = {}
        self.known = [{}] * len(walk.words)
        great = self.great_rows()
        for row in inner_first(walk):
            if row not in great:
                self.known[row] = self.known_knot(row) if walk.parts[row] else self.known_lever(row)

    def great_rows(self):
        """The whole tree and the greatest parts below it, as far as they are great."""
        rows = []
        row = 0
        while self.levers[row] > SMALL_PART:
            rows.append(row)
            row = self.open_part(row)
        return rows

    def open_part(self, row):
        """The row of a knot's greatest part, the first one of them."""
        best = self.walk.parts[row][0]
        for part in self.walk.parts[row]:
            if self.levers[part] > self.levers[best]:
                best = part
        return best

    def known_lever(self, row):
        """By column how many boxes of a lever there are, and one of them."""
        found = {}
        column = self.columns[self.walk.levers[row]]
        put_count(found, column, 1, "alive")
        if self.kinds[0]:
            put_count(found, self.full ^ column, 1, "turned")
        return found

    def known_knot(self, row):
        """By column how many boxes of a knot there are, and one of them."""
        part = self.open_part(row)
        alone, beside = self.sides(row, part, 0)
        found = {}
        for column, (count, way) in alone.items():
            put_count(found, column, count, alone_fault(way))
        for (low, high), (count, way) in beside.items():
            for inner, (many, fault) in self.known[part].items():
                column = low | (high & inner)
                if column in found:
                    found[column][0] += count * many
                else:
                    found[column] = [count * many, beside_fault(way, self.walk.ranks[part], fault)]
        if len(found) > self.most:
            raise TooGreat(self.most)
        return found

    def sides(self, row, part, mask):
        """(alone, beside) of a knot without a part, so far as it can fit what is wanted in a mask."""
        others = [(self.walk.ranks[other], self.known[other]) for other in self.walk.parts[row] if other != part]
        if self.kinds[1] == "rising":
            rising = RisingSides(self.book, self.target & mask, mask & ~self.target, self.full, self.most)
            rising.put_parts(others)
            return (rising.alone, rising.beside)
        words = ("all", "any") if self.kinds[1] == "exchanged" else (self.walk.words[row],)
        return word_sides(words, others, self.full, self.most)

    def counted_boxes(self, row, mask):
        """How many boxes of a part show what is wanted in a mask, and one of them or None."""
        if (row, mask) not in self.counted:
            if self.known[row]:
                self.counted[(row, mask)] = self.counted_known(row, mask)
            elif mask == 0:
                number = changing_numbers(self.walk, self.kinds)[row]
                self.counted[(row, mask)] = (number, own_plains(self.walk)[row])
            else:
                self.counted[(row, mask)] = self.counted_knot(row, mask)
        return self.counted[(row, mask)]

    def counted_known(self, row, mask):
        """The same for a part of which all columns are known."""
        fitting = [known for column, known in self.known[row].items() if (column ^ self.target) & mask == 0]
        if not fitting:
            return (0, None)
        return (sum([count for count, _ in fitting]), fitting[0][1])

    def counted_knot(self, row, mask):
        """The same for a great knot."""
        part = self.open_part(row)
        alone, beside = self.sides(row, part, mask)
        total = 0
        found = None
        for column, (count, way) in alone.items():
            if (column ^ self.target) & mask == 0:
                total += count
                found = alone_fault(way)
        for (low, high), (count, way) in beside.items():
            if (low & ~self.target | self.target & ~high) & mask == 0:
                many, fault = self.counted_boxes(part, (low ^ high) & mask)
                if many > 0:
                    total += count * many
                    found = beside_fault(way, self.walk.ranks[part], fault)
        return (total, found)
