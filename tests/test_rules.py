"""Point 36: rising rules."""

import itertools
import unittest

from deadlevers.errors import Refused
from deadlevers.rules import needing_number, rising_rules, rule_needs
from helpers import ANY_VALUES, Case, same


def plain_rules(many):
    """All tables that never fall when a value goes from 0 to 1."""
    found = []
    for rule in itertools.product((0, 1), repeat=2 ** many):
        if all(rule[number] <= rule[number | 1 << at] for number in range(2 ** many) for at in range(many)):
            found.append(rule)
    return tuple(found)


def plain_needs(rule):
    many = len(rule).bit_length() - 1
    return tuple(at for at in range(many) if any(rule[number] != rule[number ^ 1 << at] for number in range(len(rule))))


class RulesTest(Case):

    def test_all_rules(self):
        for many in (1, 2, 3, 4):
            self.gives(plain_rules(many), rising_rules(many))
        self.gives(((0, 0), (0, 1), (1, 1)), rising_rules(1))
        self.assertEqual([len(rising_rules(many)) for many in (1, 2, 3, 4)], [3, 6, 20, 168])

    def test_needs(self):
        for many in (1, 2, 3, 4):
            for rule in rising_rules(many):
                self.gives(plain_needs(rule), rule_needs(rule))
                self.gives(plain_needs(rule), rule_needs(list(rule)))
        self.gives((0, 2), rule_needs((0, 0, 0, 0, 0, 1, 0, 1)))
        self.gives((), rule_needs([1, 1]))

    def test_needing_numbers(self):
        self.gives(2, needing_number(0))
        for many in (1, 2, 3, 4):
            self.gives(sum(len(plain_needs(rule)) == many for rule in plain_rules(many)), needing_number(many))
        self.assertEqual([needing_number(many) for many in range(5)], [2, 1, 2, 9, 114])

    def test_any_value(self):
        for value in ANY_VALUES + (3, 4, 5, (3,), "3"):
            if not any(same(value, many) for many in (1, 2, 3, 4)):
                self.refuses(value, rising_rules, value)
                if not same(value, 0):
                    self.refuses(value, needing_number, value)
        self.fails(Refused, 5, needing_number, 5)
        self.fails(Refused, 0, rising_rules, 0)


if __name__ == "__main__":
    unittest.main()
