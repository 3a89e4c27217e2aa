"""The form of a program's arguments: which values are arrays, loops and outputs."""

from leastlap.checks import is_ascending, is_between, is_name, is_row

GREATEST_COUNT = 10 ** 18
GREATEST_STEP = 3
GREATEST_SHIFT = 10 ** 19 - 1
MOST_LOOPS = 4
MOST_STATEMENTS = 8
MOST_READS = 3


def are_arrays(thing, most):
    """Whether a value is an ascending tuple of one to most arrays."""
    if not is_row(thing, 1, most):
        return False
    if not all([is_array(part) for part in thing]):
        return False
    return is_ascending([name for name, size in thing])


def is_array(thing):
    """Whether a value is a pair of a name and a size."""
    return is_row(thing, 2, 2) and is_name(thing[0]) and is_between(thing[1], 1, GREATEST_COUNT)


def are_loops(thing, names):
    """Whether a value is a tuple of loops over arrays with these names."""
    if not is_row(thing, 1, MOST_LOOPS):
        return False
    if not all([is_loop(part, names) for part in thing]):
        return False
    return sum([len(statements) for count, statements in thing]) <= MOST_STATEMENTS


def is_loop(thing, names):
    """Whether a value is a pair of a count and statements."""
    if not is_row(thing, 2, 2):
        return False
    count, statements = thing
    if not (is_between(count, 1, GREATEST_COUNT) and is_row(statements, 1, MOST_STATEMENTS)):
        return False
    return all([is_statement(part, count, names) for part in statements])


def is_statement(thing, count, names):
    """Whether a value is a statement of a loop with this count."""
    if not (is_row(thing, 4, 4) and is_access(thing[:3], names)):
        return False
    if thing[1] == 0 and count > 1:
        return False
    return is_row(thing[3], 0, MOST_READS) and all([is_access(part, names) for part in thing[3]])


def is_access(thing, names):
    """Whether a value is the name of an array, with the c and the d of an index."""
    if not (is_row(thing, 3, 3) and thing[0] in names):
        return False
    c, d = thing[1:]
    return is_between(c, -GREATEST_STEP, GREATEST_STEP) and is_between(d, -GREATEST_SHIFT, GREATEST_SHIFT)


def are_outputs(thing, names):
    """Whether a value is an ascending tuple of some of the names."""
    if not isinstance(thing, tuple):
        return False
    if not all([part in names for part in thing]):
        return False
    return is_ascending(thing)
