"""Stories: clearing lists, and lots that they let by."""

from deadlevers.columns import clear_columns, filled_setting, full_column, lamp_columns, list_columns
from deadlevers.cores import core_box, found_tree
from deadlevers.court import box_honest, tall_place
from deadlevers.errors import BadList, BadLot, TooGreat
from deadlevers.killers import idlers
from deadlevers.lists import all_listed
from deadlevers.masks import bits_number, first_bit, lit_mask, low_mask, up_mask
from deadlevers.rising import check_rising
from deadlevers.tables import hang_setting, number_setting, setting_number
from deadlevers.trees import check_list, check_lot, mirror_tree
from deadlevers.values import has_length
from deadlevers.walks import least_levers, read_form, row_at, tree_walk
from deadlevers.wishes import wish_targets


def ring_of(walk, row):
    """Of a tall part the rows of its first part that is a knot, and of its first other one."""
    parts = walk.parts[row]
    knot = [part for part in parts if walk.parts[part]][0]
    return (knot, [part for part in parts if part != knot][0])


def cover_of(walk, found, row):
    """A setting at which a tall "any" burns, and goes dark by the lot.

    It burns by the first other part alone; the first knot is dark not by its first part, whose
    lever is stuck at 1, but by its second one.
    """
    knot, other = ring_of(walk, row)
    setting = found[other][0][0]
    for part in walk.parts[row]:
        if part not in (knot, other):
            setting |= found[part][1][0]
    for rank, part in enumerate(walk.parts[knot]):
        setting |= found[part][1 if rank == 1 else 0][0]
    return setting


def all_story(walk, place, pair):
    """The settings and the lot of a story for an "all" with two tall parts."""
    found = all_listed(walk, {})
    least = least_levers(walk)
    covers = {}
    lot = []
    for rank in pair:
        row = walk.parts[row_at(walk, place)][rank]
        covers[row] = cover_of(walk, found, row)
        knot, other = ring_of(walk, row)
        lot.extend([(least[knot], 1), (least[other], 0)])
    ups, downs = all_listed(walk, covers)[0]
    return ([number_setting(number, walk.many) for number in ups + downs], sorted(lot))


def mirrored(setting):
    """The setting with each lever turned."""
    return tuple([1 - place for place in setting])


def story_paper(settings, lot):
    """("story", settings, lot)."""
    return ("story", tuple(settings), tuple(lot))


def tree_story(tree):
    """None for an honest tree, else a shortest clearing list and a lot of four that it lets by."""
    fault = tall_place(tree)
    if fault is None:
        return None
    place, pair = fault
    walk = tree_walk(tree)
    if walk.words[row_at(walk, place)] == "all":
        settings, lot = all_story(walk, place, pair)
        return story_paper(settings, lot)
    settings, lot = all_story(tree_walk(mirror_tree(tree)), place, pair)
    turned = [(lever, 1 - stuck) for lever, stuck in lot]
    return story_paper([mirrored(setting) for setting in settings], turned)


def hanging_number(core, idle, lever, place):
    """The number of a setting of the core that hangs on a lever, told as down, the idle one at a place."""
    many = core.levers
    hanging = lit_mask(bits_number(core.lamps), lever, many)
    if lever != idle:
        hanging &= up_mask(idle, many) if place == 1 else low_mask(idle, many)
    return first_bit(hanging)


def part_setting(walk, bits, place, many):
    """The number of the setting that clears some levers of a core lever's tree, all others down."""
    return setting_number(filled_setting(walk, bits, place, many))


def core_story(core, trees, many):
    """The settings and the lot of a story for a box with a core of two levers or more.

    All levers of the core but one that kills nobody are dead, where the lamp hangs on this one:
    so the broken lamp is as this one stands, and it stands at the place in which others are cleared.
    """
    idle = idlers(core)[0]
    still = hang_setting(core, idle)
    walks = [read_form(tree) for tree in trees]
    least = [least_levers(walk)[0] for walk in walks]
    numbers = []
    for lever, walk in enumerate(walks):
        for place in (0, 1):
            number = hanging_number(core, idle, lever, place)
            around = 0
            for other, beside in enumerate(walks):
                if other != lever:
                    around |= part_setting(beside, 1 << least[other], number >> other & 1, many)
            for bits in wish_targets(walk, [1] * many, place):
                numbers.append(around | part_setting(walk, bits, place, many))
    lot = sorted([(least[lever], still[lever]) for lever in range(core.levers) if lever != idle])
    return ([number_setting(number, many) for number in numbers], lot)


def table_story(table):
    """None for an honest box, else a clearing list and a lot that it lets by."""
    check_rising(table)
    tree = found_tree(table)
    if tree is not None:
        return tree_story(tree)
    core, trees = core_box(table)
    settings, lot = core_story(core, trees, table.levers)
    return story_paper(settings, lot)


def told_story(value, many):
    """The list and the lot of any value that tells a story, however wrong; else None."""
    if not has_length(value, 3) or value[0] != "story":
        return None
    try:
        return (check_list(value[1], many), check_lot(value[2], many))
    except BadList:
        return None
    except BadLot:
        return None


def broken_columns(columns, lot, full):
    """The columns of the levers with a lot dead."""
    broken = list(columns)
    for lever, place in lot:
        broken[lever] = full if place == 1 else 0
    return broken


def tree_story_holds(tree, value):
    """Whether any value tells a clearing list of the tree, and a lot that it lets by."""
    walk = tree_walk(tree)
    told = told_story(value, walk.many)
    if told is None:
        return False
    settings, lot = told
    if not all([down != 0 and up != 0 for down, up in clear_columns(walk, settings)]):
        return False
    columns = list_columns(settings, walk.many)
    broken = broken_columns(columns, lot, full_column(len(settings)))
    return lamp_columns(walk, columns)[0] == lamp_columns(walk, broken)[0]


def dead_bits(lot):
    """The dead levers, and those of them that are stuck at 1, a bit each."""
    dead = 0
    up = 0
    for lever, place in lot:
        dead |= 1 << lever
        up |= place << lever
    return (dead, up)


def clears_all(table, numbers):
    """Whether at some settings, told by number, the lamp hangs on each lever up, and down."""
    for lever in range(table.levers):
        hanging = [number for number in numbers if table.lamps[number] != table.lamps[number ^ (1 << lever)]]
        if len(set([number >> lever & 1 for number in hanging])) < 2:
            return False
    return True


def table_story_holds(table, value):
    """Whether any value tells a clearing list of any table, and a lot that it lets by."""
    told = told_story(value, table.levers)
    if told is None:
        return False
    settings, lot = told
    numbers = [setting_number(setting) for setting in settings]
    dead, up = dead_bits(lot)
    if not all([table.lamps[number] == table.lamps[(number & ~dead) | up] for number in numbers]):
        return False
    return clears_all(table, numbers)


def stuck_mask(mask, lever, place, many):
    """The mask of the box with a lever dead."""
    if place == 0:
        low = mask & low_mask(lever, many)
        return low | low << (1 << lever)
    high = mask & up_mask(lever, many)
    return high | high >> (1 << lever)


def wider_lots(lots, many):
    """The lots with one lever more behind theirs, ascending; by lot the mask of its box."""
    made = {}
    for lot, mask in lots.items():
        first = lot[-1][0] + 1 if lot else 0
        for lever in range(first, many):
            for place in (0, 1):
                made[lot + ((lever, place),)] = stuck_mask(mask, lever, place, many)
    return made


def clear_masks(mask, many):
    """The settings that clear each lever of a rising box down, and up."""
    found = []
    for lever in range(many):
        low = lit_mask(mask, lever, many)
        found.extend([low, low << (1 << lever)])
    return found


def least_hidden(table, *, most):
    """Of the lots that clearing lists let by one of the fewest levers, the least; None if there is none."""
    if box_honest(table):
        return None
    many = table.levers
    mask = bits_number(table.lamps)
    clears = clear_masks(mask, many)
    whole = full_column(1 << many)
    lots = {(): mask}
    tried = 0
    while lots:
        lots = wider_lots(lots, many)
        for lot, broken in lots.items():
            tried += 1
            if tried > most:
                raise TooGreat(most)
            right = whole ^ mask ^ broken
            if all([cleared & right != 0 for cleared in clears]):
                return lot
    return None
