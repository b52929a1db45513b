"""Tables as integers: the bit of a setting's number tells whether the lamp burns there."""

from deadlevers.columns import full_column


def lamps_mask(lamps):
    """The integer of some lamps."""
    mask = 0
    for number, lamp in enumerate(lamps):
        mask |= lamp << number
    return mask


def mask_lamps(mask, many):
    """The lamps of the integer of a box with `many` levers."""
    return tuple([mask >> number & 1 for number in range(1 << many)])


def low_mask(lever, many):
    """The settings with the lever down."""
    return full_column(1 << many) // ((1 << (1 << lever)) + 1)


def up_mask(lever, many):
    """The settings with the lever up: its column if all settings are listed by number."""
    return full_column(1 << many) ^ low_mask(lever, many)


def lit_mask(mask, lever, many):
    """The settings with the lever down at which turning it up lights the lamp."""
    return low_mask(lever, many) & ~mask & (mask >> (1 << lever))


def out_mask(mask, lever, many):
    """The settings with the lever down at which turning it up puts the lamp out."""
    return low_mask(lever, many) & mask & ~(mask >> (1 << lever))


def first_bit(mask):
    """The number of the least setting of some, one at least."""
    return (mask & -mask).bit_length() - 1
