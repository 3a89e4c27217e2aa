"""The least memory of programs of few iterations, by a search over all small placements.

Layouts are dicts by names; a place is a pair of a first cell and a layout.
"""

from itertools import combinations

from tests.conflicts import bad_distances, offset_of, walked_judge


def ends_of(size, layout):
    """The least and the greatest cell of an array, less the first one."""
    cells = [offset_of(layout, index) for index in range(size)]
    return min(cells), max(cells)


def ranges_within(arrays, layouts, told, cells):
    """For each array all first cells with which it lies within so many cells."""
    told = dict(told)
    found = {}
    for name, size in arrays:
        low, high = ends_of(size, layouts[name])
        found[name] = [first for first in range(-low, cells - high) if told.get(name, first) == first]
    return found


def all_placements(arrays, layouts, told, cells):
    """All placements that fit within so many cells, as places by names."""
    ranges = ranges_within(arrays, layouts, told, cells)
    found = [{}]
    for name, _ in arrays:
        found = [{**places, name: (first, layouts[name])} for places in found for first in ranges[name]]
    return found


def walked_least(events, arrays, layouts, told, most):
    """The least size of a right placement, each placement being walked, or None if there is none up to a size."""
    for cells in range(1, most + 1):
        for places in all_placements(arrays, layouts, told, cells):
            if walked_judge(events, places) == ("right",):
                return cells
    return None


def bad_of(conflicts, arrays, layouts):
    """All bad distances of each pair of arrays, by names in order."""
    return {(one, other): bad_distances(conflicts, one, layouts[one], other, layouts[other])
            for (one, _), (other, _) in combinations(arrays, 2)}


def is_enough(bad, ranges, names, firsts=()):
    """Whether some first cells of these ranges go on others, all distances being good."""
    if len(firsts) == len(names):
        return True
    name = names[len(firsts)]
    for first in ranges[name]:
        if all(before - first not in bad[other, name] for other, before in zip(names, firsts)):
            if is_enough(bad, ranges, names, firsts + (first,)):
                return True
    return False


def searched_least(conflicts, arrays, layouts, told, most):
    """As walked_least, by the bad distances; all rings have to be right by themselves."""
    bad, names = bad_of(conflicts, arrays, layouts), [name for name, _ in arrays]
    for cells in range(1, most + 1):
        if is_enough(bad, ranges_within(arrays, layouts, told, cells), names):
            return cells
    return None


def no_memory(conflicts, arrays, layouts, told):
    """The answer of NoMemory, or None."""
    for name, _ in arrays:
        layout = layouts[name]
        if not isinstance(layout, str):
            if any(x[0] == y[0] == name and x[1] % layout[1] == y[1] % layout[1] for x, y in conflicts):
                return "ring", name
    for (one, first), (other, second) in combinations(told, 2):
        if first - second in bad_distances(conflicts, one, layouts[one], other, layouts[other]):
            return "distance", one, other
    return None
