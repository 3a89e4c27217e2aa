"""Trees: why no right placement has so few cells."""

from leastlap.problems import Problem
from leastlap.proving import tree_of
from leastlap.reading import Reader
from leastlap.seeking import is_enough


def tree_against(schedule, layouts, size, *, told=()):
    """A tree against a size, or None if it is enough; raises NoMemory(answer) if no placement that fits is right."""
    problem = Problem(schedule, layouts, told)
    return None if is_enough(problem, size) else tree_of(problem, size)


def tree_holds(schedule, layouts, size, thing, *, told=()):
    """Whether any value is a tree against a size."""
    return Reader(schedule, layouts, size, told).is_tree(thing)
