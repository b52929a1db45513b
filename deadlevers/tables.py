"""Tables: any box of a few levers, told by its lamp at each setting."""

from deadlevers.columns import lamp_columns
from deadlevers.errors import BadTable, Refused, TooGreat
from deadlevers.masks import bits_number, first_bit, lit_mask, number_bits, out_mask, up_mask
from deadlevers.trees import check_lot, check_setting, first_wrong_place
from deadlevers.values import are_ascending, check_lever, has_length, is_below, is_integer
from deadlevers.walks import tree_walk

MOST_TABLE_LEVERS = 10


def setting_number(setting):
    """The number of a setting: the lever z counts 2 to the power of z."""
    return bits_number(setting)


def number_setting(number, many):
    """The setting of `many` levers with a number."""
    return number_bits(number, many)


def table_size(value):
    """Of how many levers any value has as many lamps as a table, 0 if of none."""
    for many in range(1, MOST_TABLE_LEVERS + 1):
        if has_length(value, 1 << many):
            return many
    return 0


class Table:
    """A box of 1 to 10 levers: by the number of the setting its lamp."""

    def __init__(self, lamps):
        many = table_size(lamps)
        if many == 0:
            raise BadTable(-1)
        at = first_wrong_place(lamps, 1 << many)
        if at is not None:
            raise BadTable(at)
        self.levers = many
        self.lamps = tuple(lamps)

    def __eq__(self, other):
        return isinstance(other, Table) and self.lamps == other.lamps


def tree_table(tree):
    """The table of a tree."""
    walk = tree_walk(tree)
    if walk.many > MOST_TABLE_LEVERS:
        raise TooGreat(MOST_TABLE_LEVERS)
    columns = [up_mask(lever, walk.many) for lever in range(walk.many)]
    return Table(number_bits(lamp_columns(walk, columns)[0], 1 << walk.many))


def table_lamp(table, setting):
    """The lamp at a setting."""
    return table.lamps[setting_number(check_setting(setting, table.levers))]


def lot_table(table, lot):
    """The table of the box with a lot dead."""
    dead = 0
    up = 0
    for lever, place in check_lot(lot, table.levers):
        dead |= 1 << lever
        up |= place << lever
    return Table([table.lamps[(number & ~dead) | up] for number in range(len(table.lamps))])


def table_parting(one, other):
    """The least setting at which two boxes have unlike lamps, or None."""
    if one.levers != other.levers:
        raise Refused(other)
    unlike = bits_number(one.lamps) ^ bits_number(other.lamps)
    if unlike == 0:
        return None
    return number_setting(first_bit(unlike), one.levers)


def turning_masks(table, lever):
    """The settings with the lever down at which turning it up lights the lamp, puts it out."""
    mask = bits_number(table.lamps)
    return (lit_mask(mask, lever, table.levers), out_mask(mask, lever, table.levers))


def hang_setting(table, lever):
    """The least setting with the lever down at which the lamp hangs on it, or None."""
    check_lever(lever, table.levers)
    lit, out = turning_masks(table, lever)
    if lit | out == 0:
        return None
    return number_setting(first_bit(lit | out), table.levers)


def mattering(table):
    """The levers on which the lamp hangs somewhere."""
    return tuple([lever for lever in range(table.levers) if turning_masks(table, lever) != (0, 0)])


def lever_sense(lit, out):
    """1, -1, 0 by the settings at which a lever lights the lamp, puts it out; None for both."""
    if lit == 0 and out == 0:
        return 0
    if lit == 0:
        return -1
    if out == 0:
        return 1
    return None


def sense_paper(table):
    """The senses of the levers, or a lever that both lights the lamp and puts it out."""
    senses = []
    for lever in range(table.levers):
        lit, out = turning_masks(table, lever)
        sense = lever_sense(lit, out)
        if sense is None:
            lights = number_setting(first_bit(lit), table.levers)
            return ("mixed", lever, lights, number_setting(first_bit(out), table.levers))
        senses.append(sense)
    return ("senses", tuple(senses))


def is_setting_in(value, many, mask):
    """Whether any value is a setting among those of a mask."""
    if first_wrong_place(value, many) is not None:
        return False
    return mask >> setting_number(value) & 1 == 1


def mixed_holds(table, lever, lit, out):
    """Whether some lever, of any values, lights the lamp at one setting and puts it out at another."""
    if not is_below(lever, table.levers):
        return False
    lights, darkens = turning_masks(table, lever)
    return is_setting_in(lit, table.levers, lights) and is_setting_in(out, table.levers, darkens)


def sense_holds(table, value):
    """Whether any value tells the senses, or some lever that does both."""
    if has_length(value, 4) and value[0] == "mixed":
        return mixed_holds(table, value[1], value[2], value[3])
    if not has_length(value, 2) or value[0] != "senses" or not has_length(value[1], table.levers):
        return False
    if not all([is_integer(sense) for sense in value[1]]):
        return False
    return sense_paper(table) == ("senses", tuple(value[1]))


def is_rising(table):
    """Whether no lever that is put up ever puts the lamp out."""
    return all([turning_masks(table, lever)[1] == 0 for lever in range(table.levers)])


def turned_table(table, levers):
    """The box with some levers turned upside down."""
    if not are_ascending(levers, table.levers):
        raise Refused(levers)
    turned = setting_number([1 if lever in levers else 0 for lever in range(table.levers)])
    return Table([table.lamps[number ^ turned] for number in range(len(table.lamps))])
