"""Parts of distances with one residue: bad ones with covers, good ones without."""

from leastlap.lines import first_from
from leastlap.rows import common_run


def strands_of(progressions, modulus):
    """For each residue the strands of progressions, as (low, high, progression, first, every), ascending by low.

    A strand is every so many members of a progression from one on, so that the distances rise by the modulus.
    """
    found = [[] for _ in range(modulus)]
    for progression in progressions:
        start, step, last = progression.start, progression.step, progression.last
        every = modulus // step if last > 0 else 1
        for at in range(min(every, last + 1)):
            low = start + step * at
            found[low % modulus].append((low, low + modulus * ((last - at) // every), progression, at, every))
    return [sorted(strands, key=least_of) for strands in found]


def least_of(strand):
    """The least distance of a strand."""
    return strand[0]


def row_parts(row, low, high, rest, strands, modulus):
    """The parts from low to high of the distances with a residue, by the row of the bad ones."""
    found = []
    begin = low
    for run in row:
        least, most = common_run(run, low, high, rest, modulus)
        if least <= most:
            if first_from(begin, rest, modulus) < least:
                found.append((begin, least - 1, None))
                begin = least
            end = most if most + modulus <= high else high
            found.append((begin, end, cover_of(strands, least, most, modulus)))
            begin = end + 1
    if begin <= high:
        found.append((begin, high, None))
    return tuple(found)


def cover_of(strands, least, most, modulus):
    """The families of few strands that have all distances with one residue from the least to the greatest one."""
    families = []
    reach = least - modulus
    at = 0
    while reach < most:
        best = None
        while at < len(strands) and strands[at][0] <= reach + modulus:
            best = strands[at] if best is None or strands[at][1] > best[1] else best
            at += 1
        low, reach, progression, first, every = best
        families.append(progression.part(first, every, (reach - low) // modulus).family())
    return tuple(families)
