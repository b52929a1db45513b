"""Shapes of trees, and which of them the conditions of a grammar have, however great they are.

What a part is worth in a knot, its level, is 0 if it gives but levers, 1 if a knot that is not tall,
2 if just one tall one, 3 if some knot in it has two; so also for some parts together.
"""

from deadlevers.court import tall_rows
from deadlevers.errors import Refused
from deadlevers.grammars import check_name, read_derivation, rule_names, tree_of_walk
from deadlevers.values import has_length, is_sequence
from deadlevers.walks import tree_walk

SHAPES = ("lever", "flat all", "flat any", "knots all", "knots any", "tall all", "tall any", "wide")
KINDS = ("flat", "knots", "tall")
WIDE = 3


def part_level(shape, word):
    """The level of a part with a shape in a knot with a word."""
    if shape == "lever":
        return 0
    if shape == "wide":
        return WIDE
    kind, own = shape.split(" ")
    if own == word:
        return KINDS.index(kind)
    return 1 if kind == "flat" else 2


def joined_level(one, other):
    """The level of two parts of a knot together."""
    return WIDE if one == 2 and other == 2 else max(one, other)


def level_shape(level, word):
    """The shape of a knot with a word whose parts come to a level."""
    return "wide" if level == WIDE else KINDS[level] + " " + word


def is_shape(value):
    """Whether any value is a shape."""
    return isinstance(value, str) and value in SHAPES


def tree_shape(tree):
    """The shape of a tree."""
    walk = tree_walk(tree)
    tall = tall_rows(walk)
    counts = [len([part for part in parts if tall[part]]) for parts in walk.parts]
    if not walk.parts[0]:
        return "lever"
    if max(counts) > 1:
        return "wide"
    level = 1 if tall[0] else 0
    return level_shape(2 if counts[0] == 1 else level, walk.words[0])


def least_parts(word, parts):
    """By level the (fewest levers, derivations) with which some names come to it; from those by shape."""
    found = {0: (0, ())}
    for made in parts:
        more = {}
        for level, (levers, derivations) in found.items():
            for shape, (many, derivation) in made.items():
                both = joined_level(level, part_level(shape, word))
                if both not in more or levers + many < more[both][0]:
                    more[both] = (levers + many, derivations + (derivation,))
        found = more
    return found


def rule_makings(rule, least):
    """By shape the (fewest levers, derivations) with which a rule makes it."""
    word = rule[0]
    if word == "lever":
        return {"lever": (1, ())}
    parts = least_parts(word, [least[name] for name in rule_names(rule)])
    return {level_shape(level, word): made for level, made in parts.items()}


def least_makings(grammar):
    """By name, by shape, the (fewest levers, derivation) of a condition with it."""
    least = [{} for _ in range(grammar.names)]
    settled = False
    while not settled:
        settled = True
        for name, rules in enumerate(grammar.rules):
            for index, rule in enumerate(rules):
                for shape, (levers, parts) in rule_makings(rule, least).items():
                    if shape not in least[name] or levers < least[name][shape][0]:
                        least[name][shape] = (levers, (index, parts))
                        settled = False
    return least


def in_order(made):
    """The shapes among the keys, in their order."""
    return tuple([shape for shape in SHAPES if shape in made])


def name_shapes(grammar, name):
    """The shapes of the conditions of a name."""
    check_name(grammar, name)
    return in_order(least_makings(grammar)[name])


def least_levers(grammar, name):
    """The fewest levers of a condition of a name, or None."""
    check_name(grammar, name)
    made = least_makings(grammar)[name]
    return min([levers for levers, _ in list(made.values())]) if made else None


def least_made(grammar, name, shape):
    """A derivation of the fewest levers of a condition with a shape, or None."""
    check_name(grammar, name)
    if not is_shape(shape):
        raise Refused(shape)
    made = least_makings(grammar)[name]
    return made[shape][1] if shape in made else None


def is_all_honest(grammar):
    """Whether all conditions of name 0 are honest."""
    return "wide" not in least_makings(grammar)[0]


def grammar_paper(grammar):
    """("shapes", table) if all conditions of name 0 are honest, else ("wide", derivation)."""
    least = least_makings(grammar)
    if "wide" in least[0]:
        return ("wide", least[0]["wide"][1])
    return ("shapes", tuple([in_order(made) for made in least]))


def is_wide_derivation(grammar, value):
    """Whether any value is a derivation of name 0 of a condition with two tall parts of a knot."""
    walk = read_derivation(grammar, 0, value)
    return walk is not None and tree_shape(tree_of_walk(walk)) == "wide"


def are_told_shapes(value, names):
    """Whether any value tells by name a sequence of shapes."""
    if not has_length(value, names):
        return False
    return all([is_sequence(own) and all([is_shape(shape) for shape in own]) for own in value])


def are_closed(grammar, table):
    """Whether what each rule makes of told shapes is told for its name."""
    told = [{shape: (1, ()) for shape in own} for own in table]
    for name, rules in enumerate(grammar.rules):
        for rule in rules:
            if not all([shape in told[name] for shape in rule_makings(rule, told)]):
                return False
    return True


def grammar_holds(grammar, value):
    """Whether any value is a paper of `grammar_paper`, perhaps with more shapes, or another derivation."""
    if not has_length(value, 2) or not isinstance(value[0], str):
        return False
    if value[0] == "wide":
        return is_wide_derivation(grammar, value[1])
    if value[0] != "shapes" or not are_told_shapes(value[1], grammar.names):
        return False
    return "wide" not in value[1][0] and are_closed(grammar, value[1])
