"""What a program must not do in the sequential run; the first such case of each kind, or None."""

from leastlap.accesses import all_accesses, all_reads, all_writes
from leastlap.lines import UNBOUND, first_beyond, first_missed, first_within


def first_outside(sizes, loops):
    """The first place that writes or reads what does not exist, and its first iteration that does."""
    for place, name, line in all_accesses(loops):
        i = first_beyond(line, sizes[name])
        if i is not None:
            return place, i
    return None


def lines_ahead(place, name, writes):
    """The lines in which an array is written, as far as they can be ahead of a place, each with the bound for it.

    A place that writes is among those ahead of itself, but as no statement writes an element twice, it never meets
    itself.
    """
    found = []
    for other, written, line in writes:
        if written == name and other[0] <= place[0]:
            found.append((line, bound_of(place, other)))
    return found


def bound_of(place, other):
    """The bound on an iteration of a place and one of a write, with which the write is ahead in the sequential run."""
    if other[0] < place[0]:
        return UNBOUND
    return (1, 0) if other[1] < place[1] else (1, 1)


def first_twice(loops):
    """The first write of an element that was written before."""
    writes = all_writes(loops)
    found = []
    for place, name, line in writes:
        for other, bound in lines_ahead(place, name, writes):
            i = first_within(line, other, bound)
            if i is not None:
                found.append((place[0], i, place))
    if not found:
        return None
    _, i, place = min(found)
    return place, i


def first_unwritten(sizes, loops, outputs):
    """The first use of an element that no statement wrote before, although some statement writes its array."""
    writes = all_writes(loops)
    names = [name for place, name, line in writes]
    found = []
    for place, name, line in all_reads(loops):
        if name in names:
            i = first_missed(line, lines_ahead(place, name, writes))
            if i is not None:
                found.append((place[0], i, place))
    if found:
        _, i, place = min(found)
        return place, i
    return first_left_out(sizes, [name for name in outputs if name in names], writes, len(loops))


def first_left_out(sizes, names, writes, end):
    """The first element of these arrays that is not written ahead of the end, the number behind the last loop's."""
    for name in names:
        index = first_missed((1, 0, sizes[name]), lines_ahead((end,), name, writes))
        if index is not None:
            return name, index
    return None
