"""What any value is asked: whether it is an integer, a name, a tuple of some length."""

LONGEST_NAME = 8


def is_whole(thing):
    """Whether a value is an integer; a bool is none."""
    return isinstance(thing, int) and not isinstance(thing, bool)


def is_between(thing, low, high):
    """Whether a value is an integer from low to high."""
    return is_whole(thing) and low <= thing <= high


def is_name(thing):
    """Whether a value is a name: one to eight letters."""
    if not isinstance(thing, str):
        return False
    return 1 <= len(thing) <= LONGEST_NAME and thing.isascii() and thing.isalpha()


def is_row(thing, least, most):
    """Whether a value is a tuple of least to most parts."""
    return isinstance(thing, tuple) and least <= len(thing) <= most


def is_ascending(names):
    """Whether strings are sorted and without duplicates."""
    return list(names) == sorted(set(names))
