"""Conditions as texts, settings as names."""

from deadlevers.errors import BadText, Refused
from deadlevers.trees import check_setting, joined
from deadlevers.values import has_length, is_integer, is_sequence
from deadlevers.walks import MOST_LEVERS, inner_first, tree_walk

LETTERS = "abcdefghijklmnopqrstuvwxyz"
NAME_SIGNS = "abcdefghijklmnopqrstuvwxyz0123456789_"
OWN_WORDS = ("and", "or", "not")
MOST_SIGNS = 10000
MOST_NAME_SIGNS = 20


def is_name(value):
    """Whether any value is a name."""
    if not isinstance(value, str) or not 1 <= len(value) <= MOST_NAME_SIGNS:
        return False
    if value[0] not in LETTERS or value in OWN_WORDS:
        return False
    return all([sign in NAME_SIGNS for sign in value])


def are_names(value):
    """Whether any value is a sequence of unlike names."""
    if not is_sequence(value) or not all([is_name(name) for name in value]):
        return False
    return len(set(value)) == len(value)


def word_end(text, at):
    """Where the word that begins at a place ends."""
    end = at
    while end < len(text) and text[end] in NAME_SIGNS:
        end += 1
    return max(end, at + 1)


def text_words(text):
    """The words of a text, each as (where it begins, word)."""
    words = []
    at = 0
    while at < len(text):
        if text[at] == " ":
            at += 1
        else:
            end = word_end(text, at)
            words.append((at, text[at:end]))
            at = end
    return words


class Reader:
    """What was read of a condition so far.

    `levels` has for each open bracket, and for the whole text, a pair: the parts of its "or" that
    are done, and those of the "and" that is not.
    """

    def __init__(self):
        self.levels = [([], [])]
        self.numbers = {}
        self.senses = []
        self.turning = False
        self.behind_part = False

    def put_name(self, name):
        self.levels[-1][1].append(len(self.senses))
        self.numbers[name] = len(self.senses)
        self.senses.append(-1 if self.turning else 1)
        self.turning = False
        self.behind_part = True

    def end_all(self):
        """The parts of the "and" become one part of the "or" around it."""
        done, pending = self.levels.pop()
        self.levels.append((done + [joined("all", pending)], []))

    def end_level(self):
        """The part that the innermost level makes."""
        self.end_all()
        done, _ = self.levels.pop()
        return joined("any", done)

    def take_part_word(self, word):
        """Take a word where a part must begin; whether it can stand there."""
        if word == "(" and not self.turning:
            self.levels.append(([], []))
            return True
        if word == "not" and not self.turning:
            self.turning = True
            return True
        if is_name(word) and word not in self.numbers and len(self.senses) < MOST_LEVERS:
            self.put_name(word)
            return True
        return False

    def take_joining_word(self, word):
        """Take a word behind a part; whether it can stand there."""
        if word == ")" and len(self.levels) > 1:
            part = self.end_level()
            self.levels[-1][1].append(part)
            return True
        if word not in ("and", "or"):
            return False
        if word == "or":
            self.end_all()
        self.behind_part = False
        return True

    def take(self, word):
        """Take a word; whether it can stand there."""
        if self.behind_part:
            return self.take_joining_word(word)
        return self.take_part_word(word)


def read_condition(text):
    """(tree, names, senses) of a condition."""
    if not isinstance(text, str) or len(text) > MOST_SIGNS:
        raise BadText(0)
    reader = Reader()
    for at, word in text_words(text):
        if not reader.take(word):
            raise BadText(at)
    if not reader.behind_part or len(reader.levels) > 1:
        raise BadText(len(text))
    names = tuple(list(reader.numbers))
    return (reader.end_level(), names, tuple(reader.senses))


def lever_texts(names, senses):
    """By lever its name, with "not" ahead where it is turned."""
    return [name if sense == 1 else "not " + name for name, sense in zip(names, senses)]


def knot_text(word, parts):
    """The text of a knot from pairs: a part's word, "" for a lever, and its text."""
    if word == "all":
        return " and ".join([f"({text})" if inner == "any" else text for inner, text in parts])
    return " or ".join([text for _, text in parts])


def condition_text(tree, names, senses=None):
    """The text of a condition, with as few brackets as can be."""
    walk = tree_walk(tree)
    if not has_length(names, walk.many) or not are_names(names):
        raise Refused(names)
    told = [1] * walk.many if senses is None else senses
    if not has_length(told, walk.many):
        raise Refused(senses)
    if not all([is_integer(sense) and sense in (1, -1) for sense in told]):
        raise Refused(senses)
    own = lever_texts(names, told)
    texts = [""] * len(walk.words)
    for row in inner_first(walk):
        if walk.parts[row]:
            parts = [(walk.words[part], texts[part]) for part in walk.parts[row]]
            texts[row] = knot_text(walk.words[row], parts)
        else:
            texts[row] = own[walk.levers[row]]
    return texts[0]


def check_names(names):
    """Raise Refused for any value that is no sequence of 1 to 200 unlike names."""
    if not are_names(names) or not 1 <= len(names) <= MOST_LEVERS:
        raise Refused(names)


def up_text(names, setting):
    """The names of the levers that are up."""
    check_names(names)
    places = check_setting(setting, len(names))
    up = [name for name, place in zip(names, places) if place == 1]
    if not up:
        return "-"
    return " ".join(up)


def read_up(names, text):
    """The setting at which just the named levers are up."""
    check_names(names)
    if not isinstance(text, str):
        raise BadText(0)
    levers = {name: lever for lever, name in enumerate(names)}
    setting = [0] * len(names)
    if text == "-":
        return tuple(setting)
    for at, word in enumerate(text.split(" ")):
        if word not in levers or setting[levers[word]] == 1:
            raise BadText(at)
        setting[levers[word]] = 1
    return tuple(setting)
