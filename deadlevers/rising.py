"""Rising boxes all of whose levers matter."""

from deadlevers.errors import Refused
from deadlevers.masks import bits_number, lit_mask, out_mask
from deadlevers.tables import Table


def is_full_rising(table):
    """Whether it is a rising box all of whose levers matter."""
    if not isinstance(table, Table):
        return False
    mask = bits_number(table.lamps)
    for lever in range(table.levers):
        if lit_mask(mask, lever, table.levers) == 0 or out_mask(mask, lever, table.levers) != 0:
            return False
    return True


def check_rising(table):
    """Raise Refused for any other table."""
    if not is_full_rising(table):
        raise Refused(table)
