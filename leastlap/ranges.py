"""Ranges: in which first cells an array has all its cells within a size, and what is so told of the distances."""

from leastlap.layouts import high_of, low_of
from leastlap.lefts import Left, nothing_left

EMPTY = (0, -1)


def ends_of(program, layouts):
    """For each array its least and its greatest cell, less the first one."""
    return [(low_of(layout, program.size_of(name)), high_of(layout, program.size_of(name))) for name, layout in layouts]


def firsts_told(program, told):
    """For each array the first cell that is told, or None."""
    firsts = {name: first for name, first in told}
    return [firsts.get(name) for name, size in program.arrays]


def ranges_within(ends, told, cells):
    """For each array the least and the greatest first cell with which it lies within so many cells, or EMPTY."""
    found = []
    for (low, high), first in zip(ends, told):
        least, most = -low, cells - 1 - high
        if first is not None:
            least, most = max(least, first), min(most, first)
        found.append((least, most) if least <= most else EMPTY)
    return found


def first_lefts(ranges):
    """For each pair of arrays, by their numbers, what is left of their distance at first."""
    found = {}
    for other, (least, most) in enumerate(ranges):
        for one, (low, high) in enumerate(ranges[:other]):
            is_full = EMPTY in ((low, high), (least, most))
            found[one, other] = nothing_left() if is_full else Left(low - most, high - least, 1, 0)
    return found


def with_left(lefts, pair, left):
    """The same of all pairs but one."""
    found = {other: lefts[other] for other in lefts}
    found[pair] = left
    return found
