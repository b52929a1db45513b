"""What kind of thing any value is, and the checks that many functions share."""

from deadlevers.errors import NoLever, Refused


def is_integer(value):
    """Whether it is an integer that is not a bool."""
    return isinstance(value, int) and not isinstance(value, bool)


def is_number(value):
    """Whether it is an integer from 0 on."""
    return is_integer(value) and value >= 0


def is_below(value, limit):
    """Whether it is a number less than the limit."""
    return is_number(value) and value < limit


def is_sequence(value):
    """Whether it is a list or a tuple."""
    return isinstance(value, (list, tuple))


def has_length(value, length):
    """Whether it is a sequence of just so many items."""
    return is_sequence(value) and len(value) == length


def is_word(value):
    """Whether it is the word of a knot."""
    return isinstance(value, str) and value in ("all", "any")


def are_ascending(value, many):
    """Whether it is an ascending sequence of unlike levers below `many`, perhaps empty."""
    if not is_sequence(value):
        return False
    last = -1
    for lever in value:
        if not is_below(lever, many) or lever <= last:
            return False
        last = lever
    return True


def check_lever(lever, many):
    """Raise NoLever for any value that is no lever of a box with `many`."""
    if not is_below(lever, many):
        raise NoLever(lever)


def check_place(place):
    """Raise Refused for any value but 0 and 1."""
    if not is_below(place, 2):
        raise Refused(place)
