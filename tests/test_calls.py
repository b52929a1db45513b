"""Points 1 and 2 for all functions: names of arguments, arguments that stay, answers of tuples."""

import copy
import importlib
import inspect
import unittest

from deadlevers.cheap import Scale
from deadlevers.desk import Desk
from deadlevers.errors import LeverError, NoLever
from deadlevers.grammars import Grammar
from deadlevers.live import Live
from deadlevers.nets import Net
from deadlevers.tables import Table
from helpers import Case, has_only_tuples, same

TREE = ["all", [["any", [0, ["all", [1, 2]]]], ["any", [["all", [3, 4]], 5]]]]
OTHER = ["any", [["all", [0, 1]], 2, ["all", [3, 4, 5]]]]
SETTING = [1, 0, 1, 1, 1, 0]
LIST = [[1, 0, 1, 1, 1, 0], [0, 1, 1, 0, 1, 1], [0, 0, 1, 0, 0, 1], [1, 1, 1, 1, 0, 0]]
LOT = [[0, 0], [1, 1], [3, 1], [5, 0]]
NAMES = ["door", "key", "lid", "cap", "bolt", "chain"]
MAJORITY = Table([0, 0, 0, 1, 0, 1, 1, 1])
FORK = Table([0, 0, 0, 1, 0, 1, 0, 1])
FAULT = [1, [[[0, 0, 0, 1], ["alive", [2, [0, "turned"]]]], [1, [[2, ["alive", 1]], "alive"]]]]
OWN = [2, [[1, ["alive", [2, ["alive", "alive"]]]], [1, [[2, ["alive", "alive"]], "alive"]]]]
TRIALS = [[[1, 0, 1, 1, 1, 0], 1], [[0, 0, 1, 0, 0, 1], 1], [[0, 1, 0, 0, 0, 0], 0]]
STORY = ["story", LIST + [[0, 1, 0, 1, 1, 1], [1, 0, 0, 0, 1, 0]], LOT]
SCALE = Scale([1, 1, 1, 1], [0, 1])
POLL = ["vote", 2, [0, ["any", [1, 3, 4]], 2]]
BRIDGE = Net(5, [[0, 2], [0, 3], [2, 1], [3, 1], [2, 3], [4, 2]])
FORMULA = ["all", [["choose", 0, ["not", 1], 2], ["any", [3, ["all", [["not", 4], 5]]]]]]
GRAMMAR = Grammar([[["all", [1, 1]], ["lever"]], [["any", [0, 0]], ["lever"]]])
MADE = [0, [[0, [[1, []], [1, []]]], [1, []]]]

# By module the functions, with the names of their arguments and some arguments.
CALLS = {
    "trees": [
        ("is_flat", "part", [("all", (0, 1))]), ("is_tall", "part", [("all", (0, ("any", (1, 2))))]),
        ("part_levers", "part", [("all", (0, ("any", (1, 2))))]), ("joined", "word parts", ["all", [3, ("all", (1, 2))]]),
        ("check_tree", "value", [TREE]), ("tree_levers", "tree", [TREE]), ("check_setting", "value many", [SETTING, 6]),
        ("check_list", "value many", [LIST, 6]), ("check_lot", "value many", [LOT, 6]),
        ("broken_setting", "setting lot", [SETTING, LOT]), ("tree_lamp", "tree setting", [TREE, SETTING]),
        ("broken_lamp", "tree lot setting", [TREE, LOT, SETTING]), ("left_part", "tree lot", [TREE, LOT[:2]]),
        ("tree_knots", "tree", [TREE]), ("part_at", "tree place", [TREE, [0, 1]]),
        ("lever_place", "tree lever", [TREE, 4]), ("mirror_tree", "tree", [TREE]),
        ("named_tree", "tree levers", [TREE, [5, 3, 4, 0, 2, 1]]),
    ],
    "pairs": [
        ("pair_place", "tree one other", [TREE, 3, 5]), ("pair_word", "tree one other", [TREE, 3, 5]),
        ("bare_setting", "tree one other", [TREE, 3, 5]), ("tree_parting", "tree other", [TREE, OTHER]),
        ("lot_parting", "tree lot other", [TREE, LOT, LOT[:2]]),
    ],
    "burning": [
        ("burning_number", "tree", [TREE]), ("burning_at", "tree number", [TREE, 5]),
        ("burning_before", "tree setting", [TREE, SETTING]),
    ],
    "tables": [
        ("setting_number", "setting", [SETTING]), ("number_setting", "number many", [13, 6]),
        ("tree_table", "tree", [TREE]), ("table_lamp", "table setting", [FORK, [0, 1, 1]]),
        ("lot_table", "table lot", [FORK, [[0, 1], [2, 0]]]), ("table_parting", "one other", [FORK, MAJORITY]),
        ("hang_setting", "table lever", [FORK, 2]), ("mattering", "table", [FORK]), ("sense_paper", "table", [FORK]),
        ("sense_holds", "table value", [FORK, ["senses", [1, 1, 1]]]), ("is_rising", "table", [FORK]),
        ("turned_table", "table levers", [FORK, [0, 2]]),
    ],
    "texts": [
        ("read_condition", "text", ["a and (b or not c)"]),
        ("condition_text", "tree names senses", [TREE, NAMES, [1, -1, 1, 1, -1, 1]]),
        ("up_text", "names setting", [NAMES, SETTING]), ("read_up", "names text", [NAMES, "cap door"]),
    ],
    "hanging": [
        ("hung_levers", "tree setting", [TREE, SETTING]), ("table_hung", "table setting", [FORK, [0, 1, 1]]),
        ("cleared_levers", "tree settings", [TREE, LIST]), ("uncleared", "tree settings", [TREE, LIST]),
        ("is_clearing", "tree settings", [TREE, LIST]), ("joint_paper", "tree levers place", [TREE, [0, 3], 1]),
        ("joint_holds", "tree levers place value", [TREE, [0, 1], 1, ["pair", [0, 1]]]),
    ],
    "trials": [
        ("wish_count", "tree wishes place", [TREE, [1, 0, 2, 1, 3, 0], 1]),
        ("dear_levers", "tree wishes place", [TREE, [1, 0, 2, 1, 3, 0], 0]),
        ("wish_list", "tree wishes place", [TREE, [1, 0, 2, 1, 3, 0], 1]), ("best_setting", "tree place", [TREE, 0]),
        ("lacking", "tree settings", [TREE, LIST]), ("completed", "tree settings", [TREE, LIST]),
        ("spare_settings", "tree settings", [TREE, LIST]), ("kept_settings", "tree settings", [TREE, LIST]),
        ("shortest", "tree settings", [TREE, LIST]), ("hung_numbers", "tree", [TREE]),
        ("hung_count", "tree lever", [TREE, 3]),
    ],
    "killers": [
        ("killed_levers", "table lever place", [FORK, 2, 0]), ("all_killings", "table", [FORK]),
        ("idle_killers", "table", [MAJORITY]),
    ],
    "twins": [
        ("all_twins", "table", [FORK]), ("joined_twins", "table one other", [FORK, 2, 1]),
        ("split_lever", "table lever word", [FORK, 1, "any"]),
    ],
    "cores": [
        ("core_box", "table", [FORK]), ("found_tree", "table", [FORK]),
        ("table_of", "core trees", [MAJORITY, [0, ["all", [1, 3]], 2]]), ("core_paper", "table", [MAJORITY]),
        ("check_core", "table value", [MAJORITY, ["killer", [], 0]]),
        ("core_holds", "table value", [MAJORITY, ["killer", [], 0]]),
    ],
    "court": [
        ("tall_place", "tree", [TREE]), ("is_honest", "tree", [TREE]), ("court_paper", "table", [FORK]),
        ("box_honest", "table", [FORK]), ("court_holds", "table value", [MAJORITY, ["core", [], 0]]),
    ],
    "updown": [("trial_counts", "tree", [TREE])],
    "lists": [
        ("doubtful_list", "tree doubts", [TREE, [[0, 0], [1, 1], [5, 0]]]), ("least_list", "tree", [TREE]),
        ("up_rows", "tree many", [TREE, 3]), ("down_rows", "tree many", [TREE, 4]), ("least_lists", "tree", [TREE]),
    ],
    "sizes": [
        ("least_trials", "levers", [12]), ("size_pairs", "levers", [12]), ("sized_tree", "levers up down", [12, 5, 4]),
        ("tree_numbers", "levers", [6]),
    ],
    "stories": [
        ("tree_story", "tree", [TREE]), ("table_story", "table", [MAJORITY]),
        ("tree_story_holds", "tree value", [TREE, STORY]),
        ("table_story_holds", "table value", [FORK, ["story", [[0, 1, 1]], [[0, 1]]]]), ("least_hidden", "table", [MAJORITY]),
    ],
    "rules": [
        ("rising_rules", "many", [3]), ("rule_needs", "rule", [[0, 0, 0, 1, 0, 1, 0, 1]]), ("needing_number", "many", [3]),
    ],
    "shapes": [
        ("own_fault", "tree", [TREE]), ("lot_fault", "tree lot", [TREE, LOT]),
        ("fault_lamp", "tree fault setting", [TREE, FAULT, SETTING]), ("plain_fault", "tree fault", [TREE, FAULT]),
        ("needed_levers", "tree fault", [TREE, FAULT]), ("parting_setting", "tree one other", [TREE, FAULT, OWN]),
        ("box_number", "tree kinds", [TREE, [True, "rising"]]), ("all_boxes", "tree kinds", [TREE, [False, "own"]]),
        ("lots_alike", "tree lot", [TREE, LOT]),
    ],
    "afar": [
        ("off_counts", "tree fault", [TREE, FAULT]), ("nearest_box", "tree", [TREE]), ("blind_number", "tree", [TREE]),
    ],
    "chains": [
        ("is_chain", "tree", [TREE]), ("shape_story", "tree", [TREE]), ("story_holds", "tree value", [TREE, [LIST, FAULT]]),
        ("boxes_left", "tree trials kinds", [TREE, TRIALS, [True, "rising"]]),
    ],
    "meetings": [
        ("dead_parts", "tree lot", [TREE, LOT]), ("live_levers", "tree lot", [TREE, LOT]),
        ("hold_lot", "tree value", [TREE, 1]), ("hold_number", "tree value", [TREE, 0]),
        ("spare_lot", "tree lot", [TREE, LOT]), ("meetings", "tree lot", [TREE, LOT]), ("is_let", "tree lot", [TREE, LOT]),
        ("is_sharp", "tree lot", [TREE, LOT]), ("let_paper", "tree lot", [TREE, LOT]),
        ("let_holds", "tree lot value", [TREE, LOT, ["let", [1, 0, 3, 2]]]), ("let_list", "tree lot", [TREE, LOT]),
        ("sharp_list", "tree lot", [TREE, LOT]),
    ],
    "sharp": [
        ("sharp_sizes", "tree", [TREE]), ("sharp_number", "tree", [TREE]), ("catch_number", "tree", [TREE]),
        ("error_sizes", "tree", [TREE]), ("error_number", "tree", [TREE]), ("sharp_lot", "tree number", [TREE, 2]),
        ("sharp_place", "tree lot", [TREE, LOT]), ("error_lot", "tree number", [TREE, 9]),
        ("missed_lot", "tree number", [TREE, 2]),
    ],
    "slips": [
        ("part_answers", "tree settings place", [TREE, LIST, [1]]),
        ("answer_ways", "tree settings answer", [TREE, LIST, [1, 0, 1, 1]]),
    ],
    "fitting": [
        ("fitting_total", "tree trials", [TREE, TRIALS]), ("fewest_dead", "tree trials", [TREE, TRIALS]),
        ("fitting_lot", "tree trials", [TREE, TRIALS]), ("let_by", "tree settings", [TREE, LIST]),
        ("surely_alive", "tree trials", [TREE, TRIALS]), ("surely_dead", "tree trials", [TREE, TRIALS]),
    ],
    "told": [
        ("told_shows", "tree trials", [TREE, TRIALS]), ("is_telling", "tree settings", [TREE, LIST]),
        ("best_trial", "tree settings", [TREE, LIST]),
    ],
    "cheap": [
        ("carriers", "table", [MAJORITY]), ("stoppers", "table", [MAJORITY]), ("shared_sizes", "table", [MAJORITY]),
        ("least_cover", "lots levers", [[[0, 1], [2], [1, 2]], 3]), ("fewest_trials", "table", [MAJORITY]),
        ("half_number", "weights", [[1, 2, 1, 2]]), ("half_lot", "weights number", [[1, 2, 1, 2], 1]),
        ("half_place", "weights lot", [[1, 2, 1, 2], [0, 3]]), ("rest_lot", "weights lot", [[1, 2, 1, 2], [0, 3]]),
        ("scale_lamp", "scale setting", [SCALE, [1, 0, 0, 1]]), ("other_half", "scale", [SCALE]),
        ("scale_list", "scale other", [SCALE, [0, 3]]), ("scale_table", "scale", [SCALE]), ("even_scale", "levers", [5]),
    ],
    "votes": [
        ("check_poll", "value", [POLL]), ("poll_levers", "poll", [POLL]), ("poll_lamp", "poll setting", [POLL, [1, 0, 1, 1, 0]]),
        ("poll_table", "poll", [POLL]), ("poll_hanging", "poll setting", [POLL, [1, 0, 1, 1, 0]]),
        ("poll_sizes", "poll", [POLL]), ("poll_list", "poll", [POLL]), ("poll_paper", "poll", [POLL]),
        ("check_poll_paper", "poll value", [["vote", 2, [0, 1, 2]], [
            "poll", [[1, 1, 0], [1, 0, 1]], [[0, 0, 1], [0, 1, 0]], [None], [None]]]),
        ("poll_holds", "poll value", [POLL, ["poll", [], [], [None, 0], [None, 0]]]),
    ],
    "nets": [
        ("net_lamp", "net setting", [BRIDGE, [1, 0, 1, 0, 0, 1]]),
        ("net_broken", "net lot setting", [BRIDGE, [[0, 0], [3, 1]], [1, 0, 1, 0, 0, 1]]),
        ("net_hung", "net setting", [BRIDGE, [1, 0, 1, 0, 0, 1]]),
        ("cleared_taps", "net settings", [BRIDGE, [[1, 0, 1, 0, 0, 1]]]), ("net_table", "net", [BRIDGE]),
        ("way_through", "net tap", [BRIDGE, 4]), ("cut_through", "net tap", [BRIDGE, 4]), ("needed_taps", "net", [BRIDGE]),
        ("left_net", "net lot", [BRIDGE, [[4, 1]]]), ("tree_net", "tree", [TREE]),
    ],
    "joining": [
        ("net_tree", "net", [Net(3, [[0, 2], [2, 1]])]), ("net_paper", "net", [BRIDGE]),
        ("net_holds", "net value", [BRIDGE, ["bridge", [[5, 0]], [0, 1, 2, 3, 4]]]), ("three_paper", "net", [BRIDGE]),
        ("three_holds", "net value", [BRIDGE, ["bridge", [[5, 0]], [0, 1, 2, 3, 4]]]), ("least_dead", "net", [BRIDGE]),
    ],
    "hiding": [("pair_story", "net", [BRIDGE])],
    "mending": [
        ("net_list", "net", [BRIDGE]), ("fewest_ways", "net", [BRIDGE]), ("fewest_cuts", "net", [BRIDGE]),
        ("least_net_list", "net", [BRIDGE]), ("hiding_pairs", "net", [BRIDGE]), ("least_taken", "net", [BRIDGE]),
        ("least_welded", "net", [BRIDGE]),
    ],
    "choose": [
        ("check_formula", "value", [FORMULA]), ("formula_levers", "formula", [FORMULA]),
        ("formula_lamp", "formula setting", [FORMULA, SETTING]), ("formula_broken", "formula lot setting", [FORMULA, LOT, SETTING]),
        ("negated_formula", "formula", [FORMULA]), ("formula_cleared", "formula settings", [FORMULA, LIST]),
        ("formula_fault", "formula", [FORMULA]),
    ],
    "fables": [
        ("formula_story", "formula", [FORMULA]), ("formula_story_holds", "formula value", [FORMULA, ["story", LIST, LOT]]),
    ],
    "swapped": [
        ("swapped_lamp", "tree lot places setting", [TREE, LOT, [[], [0, 1]], SETTING]), ("swap_story", "tree", [TREE]),
        ("swap_holds", "tree value", [TREE, ["swap", LIST, LOT, [[], [0, 1]]]]),
    ],
    "grammars": [
        ("check_derivation", "grammar name value", [GRAMMAR, 0, MADE]),
        ("derivation_levers", "grammar name derivation", [GRAMMAR, 0, MADE]),
        ("derived_tree", "grammar name derivation", [GRAMMAR, 0, MADE]),
    ],
    "makings": [
        ("tree_shape", "tree", [TREE]), ("name_shapes", "grammar name", [GRAMMAR, 1]), ("least_levers", "grammar name", [GRAMMAR, 1]),
        ("least_made", "grammar name shape", [GRAMMAR, 0, "wide"]), ("is_all_honest", "grammar", [GRAMMAR]),
        ("grammar_paper", "grammar", [GRAMMAR]), ("grammar_holds", "grammar value", [GRAMMAR, ["shapes", [["lever"], []]]]),
    ],
    "countings": [
        ("made_numbers", "grammar name levers", [GRAMMAR, 0, 6]), ("made_at", "grammar name levers number", [GRAMMAR, 0, 6, 5]),
        ("made_number", "grammar name derivation", [GRAMMAR, 0, MADE]), ("trial_pairs", "grammar name levers", [GRAMMAR, 0, 6]),
        ("pair_made", "grammar name levers up down", [GRAMMAR, 0, 5, 2, 3]),
    ],
    "reaches": [
        ("greatest_meeting", "grammar name levers", [GRAMMAR, 0, 6]), ("meeting_made", "grammar name levers", [GRAMMAR, 0, 6]),
    ],
    "lamps": [
        ("doubt_paper", "tree", [TREE]), ("is_sure", "tree", [TREE]),
        ("lamp_values", "tree lamps setting lot", [TREE, [[0], [0, 1]], SETTING, LOT]),
        ("lamp_clears", "tree lamps settings", [TREE, [[0], [0, 1]], LIST]), ("doubt_story", "tree", [TREE]),
        ("doubt_holds", "tree value", [TREE, STORY]),
    ],
    "fewlamps": [("least_lamps", "tree", [TREE]), ("least_looks", "tree", [TREE])],
    "fours": [
        ("four_number", "tree", [TREE]), ("four_lot", "tree number", [TREE, 2]), ("four_place", "tree lot", [TREE, LOT]),
    ],
    "wear": [
        ("wear_lots", "tree log", [TREE, [TRIALS, [], TRIALS[:1]]]), ("wear_words", "tree log", [TREE, [TRIALS[:2], TRIALS]]),
        ("wear_story", "tree log", [TREE, [TRIALS]]),
    ],
    "rounds": [
        ("round_gaps", "tree settings", [TREE, LIST]), ("round_delay", "tree settings", [TREE, LIST]),
        ("hiding_paper", "tree settings deaths", [TREE, STORY[1], 3]),
        ("longest_hiding", "tree settings deaths", [TREE, STORY[1], 3]),
        ("hiding_holds", "tree settings deaths value", [TREE, STORY[1], 4, ["run", 1, [LOT, LOT]]]),
    ],
    "live": [("figures", "tree", [TREE])],
}
# By module the functions and classes of the interface.
INTERFACE = {
    "errors": "LeverError BadTree BadTable BadSetting BadList BadLot BadText BadGrammar BadNet Refused PaperFault "
        "TooGreat NoLever",
    "trees": "is_flat is_tall part_levers joined check_tree tree_levers check_setting check_list check_lot "
        "broken_setting tree_lamp broken_lamp left_part tree_knots part_at lever_place mirror_tree named_tree",
    "pairs": "pair_place pair_word bare_setting tree_parting lot_parting",
    "burning": "burning_number burning_at burning_before",
    "tables": "setting_number number_setting Table tree_table table_lamp lot_table table_parting hang_setting "
        "mattering sense_paper sense_holds is_rising turned_table",
    "texts": "read_condition condition_text up_text read_up",
    "hanging": "hung_levers table_hung cleared_levers uncleared is_clearing joint_paper joint_holds",
    "trials": "wish_count dear_levers wish_list best_setting lacking completed spare_settings kept_settings "
        "shortest hung_numbers hung_count",
    "updown": "trial_counts",
    "lists": "doubtful_list least_list up_rows down_rows least_lists",
    "sizes": "least_trials size_pairs sized_tree tree_numbers",
    "killers": "killed_levers all_killings idle_killers",
    "twins": "all_twins joined_twins split_lever",
    "cores": "core_box found_tree table_of core_paper check_core core_holds",
    "court": "tall_place is_honest court_paper box_honest court_holds",
    "stories": "tree_story table_story tree_story_holds table_story_holds least_hidden",
    "rules": "rising_rules rule_needs needing_number",
    "shapes": "own_fault lot_fault fault_lamp plain_fault needed_levers parting_setting box_number all_boxes "
        "lots_alike",
    "afar": "off_counts nearest_box blind_number",
    "chains": "is_chain shape_story story_holds boxes_left",
    "meetings": "dead_parts live_levers hold_lot hold_number spare_lot meetings is_let is_sharp let_paper let_holds "
        "let_list sharp_list",
    "sharp": "sharp_sizes sharp_number catch_number error_sizes error_number sharp_lot sharp_place error_lot "
        "missed_lot",
    "slips": "part_answers answer_ways",
    "fitting": "fitting_total fewest_dead fitting_lot let_by surely_alive surely_dead",
    "told": "told_shows is_telling best_trial",
    "cheap": "carriers stoppers shared_sizes least_cover fewest_trials half_number half_lot half_place Scale "
        "rest_lot scale_lamp other_half scale_list scale_table even_scale",
    "votes": "check_poll poll_levers poll_lamp poll_table poll_hanging poll_sizes poll_list poll_paper "
        "check_poll_paper poll_holds",
    "nets": "Net net_lamp net_broken net_hung cleared_taps net_table way_through cut_through needed_taps left_net "
        "tree_net",
    "joining": "net_tree net_paper net_holds three_paper three_holds least_dead",
    "hiding": "pair_story",
    "mending": "net_list fewest_ways fewest_cuts least_net_list hiding_pairs least_taken least_welded",
    "choose": "check_formula formula_levers formula_lamp formula_broken negated_formula formula_cleared formula_fault",
    "fables": "formula_story formula_story_holds",
    "swapped": "swapped_lamp swap_story swap_holds",
    "grammars": "Grammar check_derivation derivation_levers derived_tree",
    "makings": "tree_shape name_shapes least_levers least_made is_all_honest grammar_paper grammar_holds",
    "countings": "made_numbers made_at made_number trial_pairs pair_made",
    "reaches": "greatest_meeting meeting_made",
    "lamps": "doubt_paper is_sure lamp_values lamp_clears doubt_story doubt_holds",
    "fewlamps": "least_lamps least_looks",
    "fours": "four_number four_lot four_place",
    "wear": "wear_lots wear_words wear_story",
    "rounds": "round_gaps round_delay hiding_paper longest_hiding hiding_holds",
    "live": "figures Live",
    "desk": "Desk",
}
# By class and method the names of its arguments, and some arguments.
METHODS = {
    Live: ([TREE], [
        ("grow", "lever tree", [1, ["any", [0, 1]]]), ("put_beside", "place word tree", [[0], "any", ["all", [0, 1]]]),
        ("take_out", "place", [[0, 1]]), ("cut_part", "place", [[0, 1]]), ("turn_knot", "place", [[0, 1]]),
        ("see", "setting lamp", [SETTING, 1]), ("pause", "", []), ("what_is_sure", "", []), ("undo", "", []), ("redo", "", []),
        ("within", "work", [Live.pause]),
    ]),
    Desk: (["a and (b or not c)"], [("say", "line", ["see 1 a c"])]),
}
DOUBTED = {"doubts": None, "lamps": ()}
MOST = {"most": 20000}
DEFAULTS = {"condition_text": {"senses": None}, "sharp_list": {"most": 400}, "part_answers": MOST, "answer_ways": MOST,
            "fitting_total": MOST, "fewest_dead": MOST, "fitting_lot": MOST, "let_by": MOST, "surely_alive": MOST,
            "surely_dead": MOST, "lamp_values": {"lot": ()}, "doubt_paper": DOUBTED, "is_sure": DOUBTED, "doubt_story": DOUBTED,
            "doubt_holds": DOUBTED, "least_lamps": {"doubts": None}, "least_looks": DOUBTED}
NAMED = {"shortest": {"most": 100}, "least_hidden": {"most": 100}, "all_boxes": {"most": 100}, "boxes_left": {"most": 100}}
NAMED.update({name: {"most": 300} for name, named in DEFAULTS.items() if "most" in named})
TOLD_DOUBTS = {"doubts": [[0, 0], [1, 1], [3, 1], [5, 0]], "lamps": [[0, 1]]}
NAMED.update({name: dict(TOLD_DOUBTS) for name, named in DEFAULTS.items() if named is DOUBTED})
NAMED["least_lamps"] = {"doubts": TOLD_DOUBTS["doubts"]}
CLASSES = [(Table, "lamps"), (Scale, "weights lot"), (Net, "nodes taps"), (Grammar, "rules"), (Live, "tree"), (Desk, "text")]
WRONG = [
    ("trees", "check_tree", [["all", [0, ["all", [1, 2]]]]]), ("trees", "named_tree", [TREE, [0, 1, 2, 3, 4, 4]]),
    ("trees", "part_at", [TREE, [0, 7]]), ("trees", "lever_place", [TREE, [1]]),
    ("trees", "check_lot", [[[0, 1], [0, 0]], 6]), ("pairs", "tree_parting", [TREE, ["any", [0, 1]]]),
    ("tables", "turned_table", [FORK, [2, 0]]), ("texts", "up_text", [["a", "a"], [0, 1]]),
    ("hanging", "joint_paper", [TREE, [3, 0], 1]), ("hanging", "joint_holds", [TREE, [0], [1], None]),
    ("trials", "wish_count", [TREE, [1, 0, 2, 1, 3, -1], 1]), ("trials", "wish_list", [TREE, [400, 1, 2, 1, 3, 0], 1]),
    ("killers", "killed_levers", [FORK, [0], 1]), ("twins", "split_lever", [FORK, 0, ["all"]]),
    ("cores", "table_of", [FORK, [0, ["all", [2, 1]], 3]]), ("cores", "check_core", [FORK, ["killer", [[0, 1, "all"]], 0]]),
    ("lists", "doubtful_list", [TREE, [[0, 1], [0, 0]]]), ("sizes", "sized_tree", [6, [1], [2]]),
    ("rules", "rising_rules", [[3]]), ("shapes", "plain_fault", [TREE, FAULT[1]]), ("shapes", "box_number", [TREE, [True, []]]),
    ("afar", "off_counts", [TREE, [1, []]]), ("meetings", "let_list", [TREE, LOT[:1]]), ("sharp", "sharp_lot", [TREE, [1]]),
    ("slips", "answer_ways", [TREE, LIST, [1, 0]]), ("fitting", "surely_dead", [TREE, TRIALS + [[TRIALS[0][0], 0]]]),
    ("cheap", "half_place", [[1, 1, 2], [0, 2]]), ("cheap", "scale_list", [SCALE, [2, 3]]),
    ("votes", "check_poll_paper", [POLL, ["poll", [], [], [None, 0], [None, 0]]]), ("nets", "left_net", [BRIDGE, [[3, 0], [2, 1]]]),
    ("nets", "way_through", [BRIDGE, [1]]), ("hiding", "pair_story", [Net(3, [[0, 2], [2, 1]])]),
    ("mending", "least_taken", [Net(3, [[0, 2]])]), ("mending", "fewest_cuts", [Net(2, [[0, 1]] * 13)]),
    ("choose", "check_formula", [["choose", 0, [1], 2]]), ("choose", "formula_broken", [FORMULA, LOT[::-1], SETTING]),
    ("swapped", "swapped_lamp", [TREE, [], [[0], []], SETTING]), ("grammars", "derived_tree", [GRAMMAR, 0, [0, [MADE]]]),
    ("makings", "least_made", [GRAMMAR, 0, ["wide"]]), ("countings", "made_at", [GRAMMAR, 0, 6, [1]]),
    ("countings", "pair_made", [GRAMMAR, 0, 6, [1], [1]]), ("reaches", "meeting_made", [GRAMMAR, [0], 6]),
    ("lamps", "lamp_values", [TREE, [[0, 1], [0]], SETTING, LOT]), ("lamps", "lamp_clears", [TREE, [[]], LIST]),
    ("fours", "four_lot", [TREE, [0]]), ("fours", "four_place", [TREE, LOT[::-1]]), ("wear", "wear_lots", [TREE, [TRIALS, LIST]]),
    ("rounds", "hiding_holds", [TREE, LIST, [1], None]), ("rounds", "round_gaps", [TREE, []]),
]


def calls():
    for module, rows in CALLS.items():
        for name, names, told in rows:
            yield module, getattr(importlib.import_module("deadlevers." + module), name), names.split(), told


class CallsTest(Case):

    def test_every_function_is_there(self):
        for module, function, names, _ in calls():
            self.assertEqual(function.__module__, "deadlevers." + module)
            found = inspect.signature(function).parameters
            plain = [name for name in found if found[name].kind is inspect.Parameter.POSITIONAL_OR_KEYWORD]
            self.assertEqual(plain, names, function.__name__)
            behind = [name for name in found if found[name].kind is inspect.Parameter.KEYWORD_ONLY]
            self.assertEqual(behind, list(NAMED.get(function.__name__, {})))
            defaults = {name: found[name].default for name in found if found[name].default is not inspect.Parameter.empty}
            self.assertEqual(defaults, DEFAULTS.get(function.__name__, {}))

    def test_arguments_stay_and_answers_are_tuples(self):
        for _, function, names, told in calls():
            more = NAMED.get(function.__name__, {})
            before = copy.deepcopy(told)
            found = function(*told, **more)
            self.assertTrue(same(told, before), function.__name__)
            self.assertTrue(has_only_tuples(found), (function.__name__, found))
            again = function(**dict(zip(names, told)), **more)
            self.assertTrue(same(found, again), (function.__name__, found, again))

    def test_arguments_stay_where_they_are_wrong(self):
        for module, name, told in WRONG:
            function = getattr(importlib.import_module("deadlevers." + module), name)
            before = copy.deepcopy(told)
            with self.assertRaises((LeverError, NoLever)):
                function(*told)
            self.assertTrue(same(told, before), name)

    def test_methods(self):
        for kind, (made, rows) in METHODS.items():
            for name, names, told in rows:
                method = vars(kind)[name]
                self.assertEqual(list(inspect.signature(method).parameters)[1:], names.split())
                before = copy.deepcopy(told)
                one, other = kind(*copy.deepcopy(made)), kind(*copy.deepcopy(made))
                found = getattr(one, name)(*told)
                self.assertTrue(same(told, before) or name == "within", name)
                self.assertTrue(has_only_tuples(found), name)
                self.assertTrue(same(found, getattr(other, name)(**dict(zip(names.split(), told)))), name)
            self.assertEqual(list(made), list(copy.deepcopy(made)))

    def test_attributes_are_tuples(self):
        live = Live(TREE)
        live.see(SETTING, 1)
        live.grow(2, OTHER)
        live.see([0] * 11, 1)
        self.assertTrue(has_only_tuples((live.tree, live.log, live.ways)))
        self.assertIsInstance(Desk("a or b").live, Live)

    def test_all_of_the_interface(self):
        """Each module has just the functions of the interface, as they are listed."""
        listed = {module: [name for name, _, _ in rows] for module, rows in CALLS.items()}
        for module, names in INTERFACE.items():
            found = importlib.import_module("deadlevers." + module)
            for name in names.split():
                self.assertEqual(getattr(found, name).__module__, "deadlevers." + module)
                self.assertTrue(name in listed.get(module, []) or inspect.isclass(getattr(found, name)), name)

    def test_named_places_of_classes(self):
        for kind, names in CLASSES:
            self.assertEqual(list(inspect.signature(kind).parameters), names.split())


if __name__ == "__main__":
    unittest.main()
