"""Tables as integers: the bit of a setting's number tells whether the lamp burns there."""

from deadlevers.columns import full_column


def bits_number(bits):
    """The integer of some bits, the first one counting 1."""
    number = 0
    for at, bit in enumerate(bits):
        number |= bit << at
    return number


def number_bits(number, count):
    """The first bits of an integer."""
    return tuple([number >> at & 1 for at in range(count)])


def low_mask(lever, many):
    """The settings with the lever down."""
    return full_column(1 << many) // ((1 << (1 << lever)) + 1)


def up_mask(lever, many):
    """The settings with the lever up: its column if all settings are listed by number."""
    return full_column(1 << many) ^ low_mask(lever, many)


def lit_mask(mask, lever, many):
    """The settings with the lever down at which turning it up lights the lamp."""
    return low_mask(lever, many) & ~mask & (mask >> (1 << lever))


def out_mask(mask, lever, many):
    """The settings with the lever down at which turning it up puts the lamp out."""
    return low_mask(lever, many) & mask & ~(mask >> (1 << lever))


def first_bit(mask):
    """The number of the least setting of some, one at least."""
    return (mask & -mask).bit_length() - 1
