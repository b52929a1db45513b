"""Grammars of conditions, their derivations, and the trees that these make."""

from deadlevers.errors import BadGrammar, Refused
from deadlevers.values import has_length, is_below, is_sequence, is_word
from deadlevers.walks import MOST_LEVERS, Walk, inner_first

MOST_NAMES = 6
MOST_RULES = 4


def are_rule_names(value, names):
    """Whether any value is a sequence of two or three of so many names."""
    return is_sequence(value) and 2 <= len(value) <= 3 and all([is_below(name, names) for name in value])


def is_rule(value, names):
    """Whether any value is a rule of a grammar with so many names."""
    if has_length(value, 1):
        return isinstance(value[0], str) and value[0] == "lever"
    return has_length(value, 2) and is_word(value[0]) and are_rule_names(value[1], names)


def are_rules(value, names):
    """Whether any value is the rules of a name."""
    return is_sequence(value) and 1 <= len(value) <= MOST_RULES and all([is_rule(rule, names) for rule in value])


def told_rule(rule):
    """A rule as tuples."""
    if len(rule) == 1:
        return (rule[0],)
    return (rule[0], tuple(rule[1]))


class Grammar:
    """Names, told by number, each with rules by which conditions are made."""

    def __init__(self, rules):
        if not is_sequence(rules) or not 1 <= len(rules) <= MOST_NAMES:
            raise BadGrammar(-1)
        for name, own in enumerate(rules):
            if not are_rules(own, len(rules)):
                raise BadGrammar(name)
        self.names = len(rules)
        self.rules = tuple([tuple([told_rule(rule) for rule in own]) for own in rules])

    def __eq__(self, other):
        return isinstance(other, Grammar) and self.rules == other.rules


def rule_names(rule):
    """The names of a rule, none for a lever."""
    return () if rule[0] == "lever" else rule[1]


def check_name(grammar, name):
    """Raise Refused for any value that is no name."""
    if not is_below(name, grammar.names):
        raise Refused(name)


class DerivationWalk(Walk):
    """A derivation as rows: its levers are numbered as they come; `indexes` has by row that of the rule."""

    def __init__(self):
        Walk.__init__(self)
        self.indexes = []

    def put_rule(self, index, word, above):
        """Put a derivation by a rule with a word; its row."""
        self.indexes.append(index)
        if word == "lever":
            self.put_lever(self.many, above)
        else:
            self.put_knot(word, above)
        return len(self.indexes) - 1


def derivation_rule(grammar, name, value):
    """The rule by which any value looks like a derivation of a name, or None."""
    if not has_length(value, 2) or not is_below(value[0], len(grammar.rules[name])):
        return None
    rule = grammar.rules[name][value[0]]
    return rule if has_length(value[1], len(rule_names(rule))) else None


def read_derivation(grammar, name, value):
    """The walk of any value that is a derivation of a name with at most 200 levers, or None."""
    walk = DerivationWalk()
    waiting = [(value, name, -1)]
    while waiting:
        item, own, above = waiting.pop()
        rule = derivation_rule(grammar, own, item)
        if rule is None:
            return None
        row = walk.put_rule(item[0], rule[0], above)
        inner = [(part, behind, row) for part, behind in zip(item[1], rule_names(rule))]
        waiting.extend(inner[::-1])
        # As many knots as levers are in no derivation: so a list within itself comes to an end, too.
        if walk.many > MOST_LEVERS or len(walk.words) - walk.many >= MOST_LEVERS:
            return None
    return walk


def derivation_walk(grammar, name, value):
    """The walk of any value that is a derivation of what is a name; else Refused."""
    walk = read_derivation(grammar, name, value)
    if walk is None:
        raise Refused(value)
    return walk


def check_derivation(grammar, name, value):
    """Any value that is a derivation of a name, as tuples; else Refused."""
    check_name(grammar, name)
    walk = derivation_walk(grammar, name, value)
    made = [()] * len(walk.words)
    for row in inner_first(walk):
        made[row] = (walk.indexes[row], tuple([made[part] for part in walk.parts[row]]))
    return made[0]


def derivation_levers(grammar, name, derivation):
    """How many levers it has."""
    check_name(grammar, name)
    return derivation_walk(grammar, name, derivation).many


def tree_of_walk(walk):
    """The tree that a derivation makes: parts of a knot's own word give their parts to it."""
    made = list(walk.levers)
    for row in inner_first(walk):
        word = walk.words[row]
        parts = []
        for part in walk.parts[row]:
            if walk.words[part] == word:
                parts.extend(made[part][1])
            else:
                parts.append(made[part])
        if parts:
            made[row] = (word, tuple(parts))
    return made[0]


def derived_tree(grammar, name, derivation):
    """The tree that it makes."""
    check_name(grammar, name)
    return tree_of_walk(derivation_walk(grammar, name, derivation))
