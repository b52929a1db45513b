"""Plain searches over boxes of a tree's shape."""

import itertools

from deadlevers.rules import rising_rules
from helpers import many_of, settings_of

ALL_KINDS = tuple(itertools.product((False, True), ("own", "exchanged", "rising")))


def is_constant(fault):
    return isinstance(fault, int)


def rule_lamp(rule, values):
    if isinstance(rule, int):
        return int(sum(values) >= rule)
    return rule[sum(value * 2 ** at for at, value in enumerate(values))]


def shape_lamp(tree, fault, setting):
    """The lamp of the box with a fault."""
    if isinstance(tree, int):
        if is_constant(fault):
            return fault
        return setting[tree] if fault == "alive" else 1 - setting[tree]
    return rule_lamp(fault[0], [shape_lamp(part, inner, setting) for part, inner in zip(tree[1], fault[1])])


def plain_lamp(tree, fault, setting):
    """The lamp of the box with a plain fault."""
    if is_constant(fault) or isinstance(tree, int):
        return shape_lamp(0, fault, [setting[tree]] if isinstance(tree, int) else [0])
    return rule_lamp(fault[1], [plain_lamp(tree[1][at], inner, setting) for at, inner in zip(fault[0], fault[2])])


def shape_lamps(tree, fault):
    """The lamps of the box with a fault at all settings."""
    return tuple(shape_lamp(tree, fault, setting) for setting in settings_of(many_of(tree)))


def plain_lamps(tree, fault):
    """The lamps of the box with a plain fault at all settings."""
    return tuple(plain_lamp(tree, fault, setting) for setting in settings_of(many_of(tree)))


def drawn_fault(rng, tree, dead=0.3):
    """Some fault; levers are dead so often."""
    if isinstance(tree, int):
        return rng.choice([0, 1]) if rng.random() < dead else rng.choice(["alive", "alive", "turned"])
    many = len(tree[1])
    rule = rng.choice(rising_rules(many)) if many <= 4 and rng.random() < 0.6 else rng.randint(1, many)
    return (rule, tuple(drawn_fault(rng, part, dead) for part in tree[1]))


def kind_rules(kind, word, many):
    if kind == "rising":
        return rising_rules(many)
    return [1, many] if kind == "exchanged" else [many if word == "all" else 1]


def all_faults(tree, kinds):
    """All faults of these kinds."""
    if isinstance(tree, int):
        return [0, 1, "alive"] + ["turned"] * kinds[0]
    inner = list(itertools.product(*[all_faults(part, kinds) for part in tree[1]]))
    return [(rule, faults) for rule in kind_rules(kinds[1], tree[0], len(tree[1])) for faults in inner]


def has_wide_knot(tree):
    """Whether some knot has five parts or more."""
    return not isinstance(tree, int) and (len(tree[1]) > 4 or any(map(has_wide_knot, tree[1])))
