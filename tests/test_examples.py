"""The examples of the document, as far as the modules are there."""

import doctest
import os
import unittest

README = os.path.join(os.path.dirname(os.path.abspath(__file__)), os.pardir, "README.md")

BOXES = '''
>>> from deadlevers.burning import burning_at, burning_number
>>> from deadlevers.pairs import bare_setting, pair_word, tree_parting
>>> from deadlevers.tables import Table, sense_paper, tree_table
>>> from deadlevers.texts import condition_text, read_condition
>>> from deadlevers.trees import left_part, tree_lamp
>>> tree, names, senses = read_condition("(door or not key) and (lid or (cap))")
>>> tree, names, senses
(('all', (('any', (0, 1)), ('any', (2, 3)))), ('door', 'key', 'lid', 'cap'), (1, -1, 1, 1))
>>> burning_number(tree), burning_at(tree, 2), left_part(tree, [(0, 1), (3, 0)]), bare_setting(tree, 0, 2)
(9, (1, 1, 1, 0), ('part', 2), (0, 0, 0, 0))
>>> tree_parting(tree, ("all", (0, 1, ("any", (2, 3))))), pair_word(tree, 1, 2)
((0, 1, (1, 0, 1, 1)), 'all')
>>> sense_paper(tree_table(("any", (0, 1)))), sense_paper(Table([0, 1, 1, 0]))
(('senses', (1, 1)), ('mixed', 0, (0, 0), (0, 1)))
>>> condition_text(tree, names, senses)
'(door or not key) and (lid or cap)'
'''

HANGING = '''
>>> from deadlevers.hanging import cleared_levers, hung_levers, joint_paper, uncleared
>>> tree = ("all", (0, ("any", (1, 2))))
>>> hung_levers(tree, (1, 1, 0)), cleared_levers(tree, [(1, 1, 0), (0, 1, 1)])
((0, 1), ((0, 1), (0,)))
>>> joint_paper(tree, (1, 2), 1)
('pair', (1, 2))
>>> uncleared(tree, [(1, 1, 0), (0, 1, 1)])
((1, 0), (2, 0), (2, 1))
'''

# From later chapters: what their examples tell of modules that are there.
LATER = '''
>>> from deadlevers.hanging import is_clearing
>>> from deadlevers.trees import broken_lamp, tree_lamp
>>> two = ("all", (("any", (0, ("all", (1, 2)))), ("any", (("all", (3, 4)), 5))))
>>> settings = [(1, 0, 1, 1, 1, 0), (0, 1, 1, 0, 1, 1), (0, 0, 1, 0, 0, 1), (0, 1, 0, 1, 1, 1), (1, 0, 0, 0, 1, 0), (1, 1, 1, 1, 0, 0)]
>>> lot = ((0, 0), (1, 1), (3, 1), (5, 0))
>>> is_clearing(two, settings), [broken_lamp(two, lot, at) - tree_lamp(two, at) for at in settings]
(True, [0, 0, 0, 0, 0, 0])
'''

ALL = {"boxes": BOXES, "hanging": HANGING, "later": LATER}


class ExamplesTest(unittest.TestCase):

    def test_examples(self):
        for name, text in ALL.items():
            with self.subTest(name):
                example = doctest.DocTestParser().get_doctest(text, {}, name, None, 0)
                told = []
                failed, tried = doctest.DocTestRunner(verbose=False).run(example, out=told.append)
                self.assertGreater(tried, 0)
                self.assertEqual(failed, 0, "".join(told))

    def test_readme(self):
        failed, tried = doctest.testfile(README, module_relative=False)
        self.assertGreater(tried, 0)
        self.assertEqual(failed, 0)


if __name__ == "__main__":
    unittest.main()
