"""Families of conflicts that change evenly, and covers of distances by them, read as any values."""

from leastlap.checks import is_row, is_whole
from leastlap.couples import Couple
from leastlap.lefts import Left


def couple_of(distances):
    """The two arrays of a Distances."""
    return Couple(distances.schedule, distances.one, distances.layout, distances.other, distances.other_layout)


def read_family(couple, thing):
    """The first distance of a family that holds, its change per step and the last member; None of any other value."""
    if not (is_row(thing, 5, 5) and all([is_whole(part) for part in thing[2:]])):
        return None
    write, use, a, b, last = thing
    start = couple.conflict(write, use)
    if start is None or last < 0:
        return None
    distance = couple.distance(start)
    if last == 0:
        return distance, 0, 0
    end = couple.conflict((write[0], write[1] + a * last), (use[0], use[1] + b * last))
    if end is None or not couple.is_even(start, end, last):
        return None
    return distance, (couple.distance(end) - distance) // last, last


def read_ends(couple, thing, modulus, residue):
    """The least and the greatest distance of a family as a cover has it for a residue; None if any value is none."""
    found = read_family(couple, thing)
    if found is None:
        return None
    distance, step, last = found
    if step not in (modulus, -modulus, 0) or distance % modulus != residue:
        return None
    end = distance + step * last
    return min(distance, end), max(distance, end)


def is_cover(couple, low, high, modulus, residue, thing):
    """Whether any value is a cover of the distances from low to high with a residue."""
    told = Left(low, high, modulus, residue)
    if not isinstance(thing, tuple):
        return False
    if told.is_empty() or len(thing) == 0:
        return told.is_empty() and len(thing) == 0
    # What the next family has to begin with at most. The first one may end ahead of all told distances; the second one
    # has to go on from there all the same.
    begin, reach = told.low, None
    for family in thing:
        ends = read_ends(couple, family, modulus, residue)
        if ends is None or ends[0] > begin:
            return False
        reach = ends[1] if reach is None else max(reach, ends[1])
        begin = reach + modulus
    return reach >= told.high


def family_holds(distances, thing):
    """Whether any value is a family that holds for the two arrays of a Distances."""
    return read_family(couple_of(distances), thing) is not None


def family_distances(distances, family):
    """Of a family that holds the distance of the first member, its change per step, and the last member."""
    return read_family(couple_of(distances), family)


def cover_holds(distances, low, high, modulus, residue, thing):
    """Whether any value is a cover of the distances from low to high with a residue."""
    return is_cover(couple_of(distances), low, high, modulus, residue, thing)
