"""The examples of the document, chapter by chapter."""

import doctest
import os
import unittest

README = os.path.join(os.path.dirname(os.path.abspath(__file__)), os.pardir, "README.md")

OVERVIEW = '''
>>> from deadlevers.court import is_honest
>>> from deadlevers.updown import trial_counts
>>> pair = ("all", (("any", (0, 1)), ("any", (2, 3))))
>>> doors = ("all", (("any", (0, ("all", (1, 2)))), ("any", (3, ("all", (4, 5))))))
>>> is_honest(pair), is_honest(doors), trial_counts(doors)
(True, False, (2, 4))
'''

BOXES = '''
>>> from deadlevers.burning import burning_at, burning_number
>>> from deadlevers.pairs import bare_setting, pair_word, tree_parting
>>> from deadlevers.tables import Table, sense_paper, tree_table
>>> from deadlevers.texts import condition_text, read_condition
>>> from deadlevers.trees import left_part, tree_lamp
>>> tree, names, senses = read_condition("(door or not key) and (lid or (cap))")
>>> tree, names, senses
(('all', (('any', (0, 1)), ('any', (2, 3)))), ('door', 'key', 'lid', 'cap'), (1, -1, 1, 1))
>>> burning_number(tree), burning_at(tree, 2), left_part(tree, [(0, 1), (3, 0)]), bare_setting(tree, 0, 2)
(9, (1, 1, 1, 0), ('part', 2), (0, 0, 0, 0))
>>> tree_parting(tree, ("all", (0, 1, ("any", (2, 3))))), pair_word(tree, 1, 2)
((0, 1, (1, 0, 1, 1)), 'all')
>>> sense_paper(tree_table(("any", (0, 1)))), sense_paper(Table([0, 1, 1, 0]))
(('senses', (1, 1)), ('mixed', 0, (0, 0), (0, 1)))
>>> condition_text(tree, names, senses)
'(door or not key) and (lid or cap)'
'''

TRIALS = '''
>>> from deadlevers.hanging import cleared_levers, hung_levers, joint_paper, uncleared
>>> from deadlevers.trials import hung_numbers, lacking, shortest, spare_settings, wish_count
>>> tree = ("all", (0, ("any", (1, 2))))
>>> hung_levers(tree, (1, 1, 0)), cleared_levers(tree, [(1, 1, 0), (0, 1, 1)]), lacking(tree, [(1, 1, 0), (0, 1, 1)])
((0, 1), ((0, 1), (0,)), (1, 1))
>>> joint_paper(tree, (1, 2), 1), wish_count(tree, (1, 3, 2), 1), wish_count(tree, (1, 3, 2), 0)
(('pair', (1, 2)), 5, 4)
>>> uncleared(tree, [(1, 1, 0), (0, 1, 1)]), hung_numbers(tree)
(((1, 0), (2, 0), (2, 1)), ((1, 3, 1), (0, 1, 2)))
>>> spare_settings(tree, [(1, 1, 0), (1, 1, 1), (1, 0, 1)]), shortest(tree, [(1, 1, 0), (1, 1, 1), (1, 0, 1)], most=8)
((1,), (0, 2))
'''

CORES = '''
>>> from deadlevers.cores import core_box, core_holds, found_tree, table_of
>>> from deadlevers.killers import idle_killers, killed_levers
>>> from deadlevers.tables import Table, tree_table
>>> from deadlevers.twins import all_twins
>>> two = Table([0, 0, 0, 1, 0, 1, 1, 1])
>>> all_twins(two), idle_killers(two), core_holds(two, ("killer", [], 2))
((), (0, 1, 2), True)
>>> box = tree_table(("all", (0, ("any", (1, 2)), 3)))
>>> killed_levers(box, 1, 1), all_twins(box), found_tree(box)
((2,), ((0, 3, 'all'), (1, 2, 'any')), ('all', (0, ('any', (1, 2)), 3)))
>>> wide = table_of(two, [0, ("all", (1, 3)), 2])
>>> core_box(wide) == (two, (0, ("all", (1, 3)), 2))
True
'''

COURT = '''
>>> from deadlevers.court import court_holds, is_honest, tall_place
>>> from deadlevers.fours import four_lot, four_number, four_place
>>> from deadlevers.stories import least_hidden, tree_story_holds
>>> from deadlevers.tables import Table, tree_table
>>> tall = ("any", (0, ("all", (1, 2))))
>>> two = ("all", (tall, ("any", (("all", (3, 4)), 5))))
>>> is_honest(tall), tall_place(two), four_number(two), four_lot(two, 1)
(True, ((), (0, 1)), 4, ((0, 0), (1, 1), (4, 1), (5, 0)))
>>> four_place(two, ((0, 0), (2, 1), (3, 1), (5, 0))), least_hidden(tree_table(two), most=2000)
(2, ((0, 0), (1, 1), (3, 1), (5, 0)))
>>> settings = [(1, 0, 1, 1, 1, 0), (0, 1, 1, 0, 1, 1), (0, 0, 1, 0, 0, 1), (0, 1, 0, 1, 1, 1), (1, 0, 0, 0, 1, 0), (1, 1, 1, 1, 0, 0)]
>>> tree_story_holds(two, ("story", settings, ((0, 0), (1, 1), (3, 1), (5, 0))))
True
>>> most = Table([0, 0, 0, 1, 0, 1, 1, 1])
>>> court_holds(most, ("core", (), 2)), least_hidden(most, most=26)
(True, ((0, 0), (1, 1)))
'''

FEWEST = '''
>>> from deadlevers.lists import doubtful_list, least_list, least_lists, up_rows
>>> from deadlevers.sizes import least_trials, tree_numbers
>>> from deadlevers.updown import trial_counts
>>> tree = ("all", (0, ("any", (1, 2))))
>>> trial_counts(tree), doubtful_list(tree, [(0, 1), (2, 1)])
((2, 2), ('list', (), ((0, 1, 1), (1, 0, 0))))
>>> least_list(tree)
('list', ((1, 1, 0), (1, 0, 1)), ((0, 1, 0), (1, 0, 0)))
>>> up_rows(tree, 2), least_lists(tree), least_trials(12), tree_numbers(3)
(2, 3, 7, ((1, 3, 1), (2, 2, 2), (3, 1, 1)))
'''

SHAPES = '''
>>> from deadlevers.afar import nearest_box, off_counts
>>> from deadlevers.chains import boxes_left, is_chain
>>> from deadlevers.shapes import box_number, plain_fault
>>> pairs = ("all", (("any", (0, 1)), ("any", (2, 3))))
>>> nearest_box(pairs), off_counts(pairs, (1, ((1, ("alive", 0)), (1, ("alive", 0)))))
((3, 0), (3, 4, 1, 8))
>>> is_chain(pairs), box_number(pairs, (False, "exchanged")), box_number(pairs, (True, "rising"))
(False, 42, 314)
>>> plain_fault(pairs, ((0, 0, 0, 1), ((1, (0, 0)), (2, ("turned", 1)))))
0
>>> boxes_left(pairs, [((1, 0, 1, 0), 0), ((0, 1, 1, 0), 1)], (False, "own"), most=100)[0]
3
'''

MEETINGS = '''
>>> from deadlevers.meetings import dead_parts, is_let, let_paper, meetings
>>> from deadlevers.sharp import catch_number, error_number, sharp_sizes
>>> hide = ("all", (("any", (0, ("all", (1, 2)))), ("any", (3, ("all", (4, 5))))))
>>> lot = ((0, 0), (2, 1), (3, 0), (5, 1))
>>> is_let(hide, lot), meetings(hide, lot)[:2], let_paper(hide, lot[:1])
(True, (((0, 0), 0, 3, 1), ((0, 1, 1), 1, 2, 0)), ('shown', 0, 1))
>>> dead_parts(hide, lot[:2]), sharp_sizes(hide), catch_number(hide), error_number(hide)
((((0, 0), 0), ((0, 1, 1), 1)), (0, 0, 0, 0, 4), 4, 12)
'''

TOLD = '''
>>> from deadlevers.fitting import fewest_dead, fitting_lot, let_by, surely_alive, surely_dead
>>> from deadlevers.slips import answer_ways, part_answers
>>> from deadlevers.told import best_trial, is_telling, told_shows
>>> tree = ("all", (("any", (0, 1)), ("any", (2, 3))))
>>> part_answers(tree, [(1, 0, 0, 1), (0, 0, 1, 0)], (0,)), answer_ways(tree, [(1, 0, 0, 1), (0, 0, 1, 0)], (1, 0))
(((0, 0), (1, 0), (1, 1)), 19)
>>> trials = [((1, 0, 0, 1), 1), ((0, 0, 1, 0), 1)]
>>> fewest_dead(tree, trials), surely_alive(tree, trials), surely_dead(tree, trials)
((1, 2), (), ())
>>> fitting_lot(tree, [((1, 1, 1, 1), 0), ((1, 0, 1, 1), 1)]), let_by(tree, [(1, 0, 1, 0), (0, 1, 0, 1), (0, 0, 1, 1), (1, 1, 0, 0)])
(None, None)
>>> other = ("all", (0, ("any", (1, 2))))
>>> told_shows(other, [((1, 1, 0), 1), ((1, 0, 0), 0), ((0, 1, 0), 1)])
((0, 0, 1), (0, 1, 1), (1, 0, 0), (1, 1, 1), (2, 0, 0))
>>> is_telling(other, [(1, 1, 0), (1, 0, 0), (0, 1, 0), (1, 0, 1)]), best_trial(tree, [])[1]
(True, 2)
'''

CHEAP = '''
>>> from deadlevers.cheap import even_scale, fewest_trials, half_number, other_half, scale_list, scale_table
>>> from deadlevers.votes import poll_list, poll_paper, poll_sizes, poll_table
>>> scale = even_scale(4)
>>> scale.lot, half_number(scale.weights), other_half(scale), scale_list(scale, (0, 2))
((0, 1), 6, (0, 2), ((1, 1, 0, 0), (0, 0, 1, 1), (1, 0, 1, 0), (0, 1, 0, 1)))
>>> fewest_trials(poll_table(("vote", 2, (0, 1, 2))))
(((1, 1, 0), (1, 0, 1)), ((0, 0, 1), (0, 1, 0)))
>>> poll_sizes(("vote", 2, (("any", (0, 1, 2)), 3, 4))), poll_paper(("vote", 2, (0, 1, 2)))[3:]
((3, 2), ((None,), (None,)))
'''

NETS = '''
>>> from deadlevers.joining import least_dead, net_paper, net_tree
>>> from deadlevers.mending import fewest_cuts, fewest_ways, least_taken, least_welded
>>> from deadlevers.nets import Net, left_net, net_hung
>>> bridge = Net(4, [(0, 2), (0, 3), (2, 1), (3, 1), (2, 3)])
>>> net_hung(bridge, (1, 0, 0, 1, 0)), net_paper(bridge)[1], least_dead(bridge)
((1, 2, 4), (), 2)
>>> len(fewest_ways(bridge)), len(fewest_cuts(bridge)), least_taken(bridge), least_welded(bridge)
(2, 2, (0,), (0,))
>>> left_net(bridge, [(0, 1)])[2], net_tree(Net(4, [(0, 2), (2, 1), (3, 2), (0, 1)]))
((1, 2, 3, 4), (('any', (('all', (0, 1)), 2)), (0, 1, 3)))
'''

CHOOSING = '''
>>> from deadlevers.choose import formula_broken, formula_cleared, formula_fault, formula_lamp, negated_formula
>>> from deadlevers.fables import formula_story_holds
>>> from deadlevers.swapped import swap_holds, swapped_lamp
>>> lift = ("choose", 0, ("all", (1, 2)), ("not", 3))
>>> formula_lamp(lift, (0, 1, 1, 1)), formula_broken(lift, [(0, 1)], (0, 1, 1, 1)), formula_fault(lift)
(0, 1, None)
>>> formula_cleared(lift, [(1, 1, 1, 0), (0, 0, 1, 0)]), negated_formula(lift)
(((1, 2), (0, 3)), ('choose', 0, ('any', (('not', 1), ('not', 2))), 3))
>>> formula_fault(("all", (("choose", 0, 1, 2), 3, ("choose", 4, 5, 6))))
('tall', (), (0, 2))
>>> tree = ("all", (("any", (0, 1)), ("any", (2, 3))))
>>> swapped_lamp(tree, [(1, 0), (3, 0)], [()], (1, 0, 0, 1))
1
>>> settings = [(1, 0, 1, 0), (0, 1, 1, 0), (0, 0, 0, 1), (1, 0, 0, 1), (0, 1, 0, 0)]
>>> swap_holds(tree, ["swap", settings, [[1, 0], [3, 0]], [[]]])
True
'''

GRAMMARS = '''
>>> from deadlevers.countings import made_at, made_numbers, trial_pairs
>>> from deadlevers.grammars import Grammar, derivation_levers, derived_tree
>>> from deadlevers.makings import least_made, name_shapes
>>> from deadlevers.reaches import greatest_meeting
>>> rules = Grammar([[("all", (1, 1)), ("lever",)], [("any", (0, 0)), ("lever",)]])
>>> name_shapes(rules, 1), made_numbers(rules, 0, 4), trial_pairs(rules, 0, 5)
(('lever', 'flat any', 'knots any', 'tall any', 'wide'), (0, 0, 0, 1, 0, 4, 0, 0), ((2, 3), (3, 3)))
>>> derived_tree(rules, 0, made_at(rules, 0, 4, 2))
('all', (('any', (0, 1)), ('any', (2, 3))))
>>> derivation_levers(rules, 0, least_made(rules, 0, "wide")), greatest_meeting(rules, 0, 6)
(6, 4)
'''

DOUBTS = '''
>>> from deadlevers.desk import Desk
>>> from deadlevers.lamps import doubt_paper
>>> from deadlevers.rounds import longest_hiding, round_delay
>>> from deadlevers.wear import wear_words
>>> two = ("all", (("any", (0, ("all", (1, 2)))), ("any", (("all", (3, 4)), 5))))
>>> doubt_paper(two), doubt_paper(two, lamps=[(0,)]), doubt_paper(two, doubts=[(0, 0), (1, 1), (3, 1), (5, 0)])
(('doubt', (), (0, 1)), None, ('doubt', (), (0, 1)))
>>> both, settings = ("all", (0, 1)), [(1, 1), (0, 1), (1, 0)]
>>> round_delay(both, settings), longest_hiding(both, settings, 1), longest_hiding(both, settings, 2)
(3, 2, 4)
>>> wear_words(both, [[((1, 1), 1), ((0, 1), 0), ((1, 0), 0)], [((0, 1), 1)]])
(('alive', 'alive'), ('up', 'open'))
>>> desk = Desk("(a or b and c) and (d and e or f)")
>>> [desk.say(line) for line in ("figures", "story", "out f", "figures", "see 1 a d e")]
['0 2 4 4 12 1 1', 'a down, b up, d up, f down', '(a or b and c) and d and e', '1 2 4 1 6 0 0', 'right']
'''

# What the story of the court tells of other modules.
LATER = '''
>>> from deadlevers.hanging import is_clearing
>>> from deadlevers.trees import broken_lamp, tree_lamp
>>> two = ("all", (("any", (0, ("all", (1, 2)))), ("any", (("all", (3, 4)), 5))))
>>> settings = [(1, 0, 1, 1, 1, 0), (0, 1, 1, 0, 1, 1), (0, 0, 1, 0, 0, 1), (0, 1, 0, 1, 1, 1), (1, 0, 0, 0, 1, 0), (1, 1, 1, 1, 0, 0)]
>>> lot = ((0, 0), (1, 1), (3, 1), (5, 0))
>>> is_clearing(two, settings), [broken_lamp(two, lot, at) - tree_lamp(two, at) for at in settings]
(True, [0, 0, 0, 0, 0, 0])
'''

ALL = {"overview": OVERVIEW, "boxes": BOXES, "trials": TRIALS, "cores": CORES, "court": COURT, "fewest": FEWEST,
       "shapes": SHAPES, "meetings": MEETINGS, "told": TOLD, "cheap": CHEAP, "nets": NETS, "choosing": CHOOSING,
       "grammars": GRAMMARS, "doubts": DOUBTS, "later": LATER}


class ExamplesTest(unittest.TestCase):

    def test_examples(self):
        for name, text in ALL.items():
            with self.subTest(name):
                example = doctest.DocTestParser().get_doctest(text, {}, name, None, 0)
                told = []
                failed, tried = doctest.DocTestRunner(verbose=False).run(example, out=told.append)
                self.assertGreater(tried, 0)
                self.assertEqual(failed, 0, "".join(told))

    def test_readme(self):
        failed, tried = doctest.testfile(README, module_relative=False)
        self.assertGreater(tried, 0)
        self.assertEqual(failed, 0)


if __name__ == "__main__":
    unittest.main()
