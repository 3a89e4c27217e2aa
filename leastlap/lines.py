"""Lines: the indices c i + d for each i from 0 to count - 1, as triples (c, d, count).

All that is asked of them is answered by sums and quotients, so that the lengths do not matter. A bound (sign, least)
on an iteration i of one line and j of another one tells that sign (i - j) is at least the second number; with (0, 0) it
tells nothing.
"""

# Each c but 0 and each number of lanes divides it. So within one residue of i modulo it, only inequalities tell in
# which i another line has the index c i + d.
ROUND = 12
UNBOUND = (0, 0)


def iteration_at(line, index):
    """The iteration in which a line, its c not 0, has an index, or None."""
    c, d, count = line
    i, rest = divmod(index - d, c)
    return i if rest == 0 and 0 <= i < count else None


def first_beyond(line, size):
    """The first iteration in which the index is not one from 0 to size - 1, or None."""
    c, d, count = line
    if not 0 <= d < size:
        return 0
    if c == 0:
        return None
    first = -((d - size) // c) if c > 0 else d // -c + 1
    return first if first < count else None


def turned(line):
    """The line with its iterations in the opposite order."""
    c, d, count = line
    return -c, d + c * (count - 1), count


def interval(low, high, rows):
    """The least and the greatest i from low to high with slope i + offset >= 0 for all rows (slope, offset).

    If there is no such i, the least one is greater than the greatest one.
    """
    for slope, offset in rows:
        if slope > 0:
            low = max(low, -(offset // slope))
        elif slope < 0:
            high = min(high, offset // -slope)
        elif offset < 0:
            return 0, -1
    return low, high


def first_from(low, residue, modulus=ROUND):
    """The least number from low on that has a residue."""
    return low + (residue - low) % modulus


def crossing(line, other):
    """(step, gap, wide), wide above 0: line in i and other in j have one index just if wide j = step i + gap."""
    c, d, _ = line
    k, e, _ = other
    if k < 0:
        return -c, e - d, -k
    return c, d - e, k


def meeting(line, other, bound, residue):
    """The least and the greatest iteration of a line in which the other one, its c not 0, has its index within a bound.

    Only iterations with the residue modulo ROUND are meant, but all of these between the two.
    """
    step, gap, wide = crossing(line, other)
    if (step * residue + gap) % wide != 0:
        return 0, -1
    sign, least = bound
    rows = [(step, gap), (-step, wide * (other[2] - 1) - gap), (sign * (wide - step), -sign * gap - wide * least)]
    return interval(0, line[2] - 1, rows)


def first_met(line, other, bounds):
    """The first iteration as in meeting, with a bound for each residue, or None."""
    found = []
    for residue, bound in enumerate(bounds):
        low, high = meeting(line, other, bound, residue)
        first = first_from(low, residue)
        if first <= high:
            found.append(first)
    return min(found, default=None)


def first_within(line, other, bound):
    """The first iteration of a line in which the other one has its index within a bound, or None."""
    return first_met(line, other, [bound] * ROUND)


def first_early(line, other, lanes, strict):
    """The first iteration of a line whose group is ahead of the one in which the other line has its index, or None.

    The iterations of both lines are in groups of lanes; if not strict, it may also be the same group.
    """
    # The group begins residue % lanes ahead of i, and j has to be there or behind, or even in a later one.
    further = lanes if strict else 0
    return first_met(line, other, [(-1, further - residue % lanes) for residue in range(ROUND)])


def first_missed(line, others):
    """The first iteration of a line in which none of the others, each with its bound, has its index, or None."""
    missed = [first_gap(line, others, residue) for residue in range(ROUND)]
    return min([i for i in missed if i < line[2]], default=None)


def first_gap(line, others, residue):
    """As first_missed, of the iterations with the residue modulo ROUND; if there is none, one from the count on."""
    i = residue
    for low, high in sorted([meeting(line, other, bound, residue) for other, bound in others]):
        if low > i:
            return i
        if high >= i:
            i = first_from(high + 1, residue)
    return i
