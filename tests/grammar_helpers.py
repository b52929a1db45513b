"""Plain searches over grammars: all derivations with few levers, in the order in which they are numbered."""

import functools
import random

from deadlevers.grammars import Grammar

TWO = Grammar([[("all", (1, 1)), ("lever",)], [("any", (0, 0)), ("lever",)]])
# Only one kind of knot: rules that lead back to themselves, and make one tree in many ways.
FLAT = Grammar([[("lever",), ("all", (0, 0))]])
THREES = Grammar([[("all", (0, 1, 0)), ("any", (1, 0)), ("lever",)], [("lever",), ("any", (0, 0, 0))], [("all", (2, 2))]])
# Name 0 has no condition at all.
NONE = Grammar([[("all", (0, 1)), ("any", (0, 0, 2))], [("lever",)], [("any", (0, 1))]])
DEEP = Grammar([[("all", (at + 1,) * 3)] if at % 2 else [("any", (at + 1,) * 3)] for at in range(5)] + [[("lever",)]])
ALONE = Grammar([[("lever",)]])
GRAMMARS = (TWO, FLAT, THREES, NONE, ALONE)


def drawn_grammar(rng, names, rules, levers=0.5, threes=0.3):
    """Some grammar; a rule is for a lever so often, for three names so often."""
    made = []
    for _ in range(names):
        own = []
        for _ in range(rng.randint(1, rules)):
            if rng.random() < levers:
                own.append(("lever",))
            else:
                count = 3 if rng.random() < threes else 2
                own.append((rng.choice(["all", "any"]), tuple(rng.randrange(names) for _ in range(count))))
        made.append(own)
    return Grammar(made)


def drawn_grammars(seed, count, names=(1, 2, 3), rules=3):
    rng = random.Random(seed)
    return [drawn_grammar(rng, rng.choice(names), rules) for _ in range(count)]


def full_grammar(rng, names, rules):
    """A grammar with so many names and rules, each name with a lever."""
    return Grammar([[("lever",)] + [(rng.choice(["all", "any"]), tuple(rng.randrange(names) for _ in range(rng.choice([2, 2, 3]))))
                                    for _ in range(rules - 1)] for _ in range(names)])


@functools.lru_cache(maxsize=None)
def all_of(rules, name, levers):
    """All derivations of a name with so many levers, in order."""
    found = []
    for index, rule in enumerate(rules[name]):
        if rule[0] == "lever":
            found += [(index, ())] * (levers == 1)
        else:
            found += [(index, parts) for parts in parts_of(rules, rule[1], levers)]
    return tuple(found)


@functools.lru_cache(maxsize=None)
def parts_of(rules, names, levers):
    if len(names) == 1:
        return tuple((part,) for part in all_of(rules, names[0], levers))
    return tuple((part,) + rest for first in range(1, levers) for part in all_of(rules, names[0], first)
                 for rest in parts_of(rules, names[1:], levers - first))


def word_of(rules, name, derivation):
    return rules[name][derivation[0]][0]


def names_of(rules, name, derivation):
    rule = rules[name][derivation[0]]
    return rule[1] if len(rule) == 2 else ()


def plain_levers(derivation):
    return sum(map(plain_levers, derivation[1])) if derivation[1] else 1


def plain_tree(rules, name, derivation, first=0):
    """The tree that a derivation makes, its levers numbered from the first one on."""
    if not derivation[1]:
        return first
    word, parts = word_of(rules, name, derivation), []
    for own, part in zip(names_of(rules, name, derivation), derivation[1]):
        made = plain_tree(rules, own, part, first)
        parts += made[1] if not isinstance(made, int) and made[0] == word else (made,)
        first += plain_levers(part)
    return (word, tuple(parts))


def knots_in(tree):
    return [] if isinstance(tree, int) else [tree] + [knot for part in tree[1] for knot in knots_in(part)]


def is_tall(tree):
    return not isinstance(tree, int) and any(not isinstance(part, int) for part in tree[1])


def plain_shape(tree):
    """The shape of a tree as point 75 tells it."""
    if isinstance(tree, int):
        return "lever"
    if any(sum(map(is_tall, knot[1])) > 1 for knot in knots_in(tree)):
        return "wide"
    if any(map(is_tall, tree[1])):
        return "tall " + tree[0]
    return ("knots " if is_tall(tree) else "flat ") + tree[0]


def conditions(grammar, name, levers):
    """The trees that the derivations of a name with so many levers make, by derivation in their order."""
    return [(made, plain_tree(grammar.rules, name, made)) for made in all_of(grammar.rules, name, levers)]


def comb(levers):
    """A derivation of FLAT with so many levers, one below another."""
    made = (0, ())
    for _ in range(levers - 1):
        made = (1, (made, (0, ())))
    return made
