"""The kinds of values that callers pass: whole numbers and sequences."""


def is_whole(value, least, most):
    """Whether the value is an integer from least to most, and no bool."""
    return isinstance(value, int) and not isinstance(value, bool) and least <= value <= most


def is_count(value):
    """Whether the value is an integer from 0, however great, and no bool."""
    return isinstance(value, int) and not isinstance(value, bool) and value >= 0


def is_sequence(value):
    """Whether the value is a list or a tuple."""
    return isinstance(value, (list, tuple))


def first_beyond(items, limit):
    """The index of the first item that is no integer from 0 to limit - 1, or None."""
    for index, item in enumerate(items):
        if not is_whole(item, 0, limit - 1):
            return index
    return None
