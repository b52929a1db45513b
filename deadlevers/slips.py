"""What parts of a tree answer on a list if some of their levers are dead."""

from deadlevers.answers import answers_by_row, unlike_answers, whole_record
from deadlevers.columns import full_column, list_columns
from deadlevers.errors import Refused
from deadlevers.masks import bits_number, number_bits
from deadlevers.trees import check_list, first_wrong_place
from deadlevers.walks import read_form, row_at, row_parts, tree_walk


def part_answers(tree, settings, place, *, most=20000):
    """All unlike answers of the part at a place on a list, whatever the states of its levers."""
    walk = tree_walk(tree)
    told = check_list(settings, walk.many)
    row = row_at(walk, place)
    if row < 0:
        raise Refused(place)
    part = read_form(row_parts(walk)[row])
    found = answers_by_row(part, list_columns(told, walk.many), full_column(len(told)), most)
    return tuple(sorted([number_bits(answer, len(told)) for answer in unlike_answers(found[0])]))


def answer_ways(tree, settings, answer, *, most=20000):
    """How many states of the levers give the whole tree an answer on a list."""
    walk = tree_walk(tree)
    told = check_list(settings, walk.many)
    if first_wrong_place(answer, len(told)) is not None:
        raise Refused(answer)
    found = answers_by_row(walk, list_columns(told, walk.many), full_column(len(told)), most)
    record = whole_record(found[0], bits_number(answer))
    return 0 if record is None else record[0]
