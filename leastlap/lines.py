"""Lines: the indices c i + d for each i from 0 to count - 1, as triples (c, d, count).

All that is asked of them is answered by sums and quotients, so that the lengths do not matter.
"""

# Every c but 0 divides it: within one residue of i modulo it, whether another line meets c i + d hangs on bounds alone.
ROUND = 6


def iteration_at(line, index):
    """The iteration in which a line, its c not 0, has an index, or None."""
    c, d, count = line
    i, rest = divmod(index - d, c)
    return i if rest == 0 and 0 <= i < count else None


def first_beyond(line, size):
    """The first iteration in which the index is not one from 0 to size - 1, or None."""
    c, d, count = line
    if not 0 <= d < size:
        return 0
    if c == 0:
        return None
    first = -((d - size) // c) if c > 0 else d // -c + 1
    return first if first < count else None


def interval(low, high, bounds):
    """The least and the greatest i from low to high with slope i + offset >= 0 for all bounds.

    If there is no such i, the least one is greater than the greatest one.
    """
    for slope, offset in bounds:
        if slope > 0:
            low = max(low, -(offset // slope))
        elif slope < 0:
            high = min(high, offset // -slope)
        elif offset < 0:
            return 0, -1
    return low, high


def first_from(low, residue, modulus):
    """The least number from low on that has the residue."""
    return low + (residue - low) % modulus


def crossing(line, other):
    """(step, gap, wide), wide above 0: line in i and other in j have one index just if wide j = step i + gap."""
    c, d, _ = line
    k, e, _ = other
    if k < 0:
        return -c, e - d, -k
    return c, d - e, k


def meeting(line, other, lag, residue):
    """The least and the greatest iteration in which the index of a line is one of the other line.

    All iterations between them that have the residue modulo ROUND are meant. The other line has to have the index in
    an iteration that is less by lag or more; with None, in any one.
    """
    step, gap, wide = crossing(line, other)
    if (step * residue + gap) % wide != 0:
        return 0, -1
    bounds = [(step, gap), (-step, wide * (other[2] - 1) - gap)]
    if lag is not None:
        bounds.append((wide - step, -gap - wide * lag))
    return interval(0, line[2] - 1, bounds)


def first_met(line, other, lag):
    """The first iteration in which the index of a line is one of the other line, as in meeting, or None."""
    found = []
    for residue in range(ROUND):
        low, high = meeting(line, other, lag, residue)
        first = first_from(low, residue, ROUND)
        if first <= high:
            found.append(first)
    return min(found, default=None)


def first_missed(line, others):
    """The first iteration in which the index of a line is none of the others, pairs of a line and a lag, or None."""
    missed = [first_gap(line, others, residue) for residue in range(ROUND)]
    return min([i for i in missed if i < line[2]], default=None)


def first_gap(line, others, residue):
    """As first_missed, of the iterations with the residue modulo ROUND; if there is none, one from the count on."""
    i = residue
    for low, high in sorted([meeting(line, other, lag, residue) for other, lag in others]):
        if low > i:
            return i
        if high >= i:
            i = first_from(high + 1, residue, ROUND)
    return i


def turned(line):
    """The line with its iterations in the opposite order."""
    c, d, count = line
    return -c, d + c * (count - 1), count


def first_early(line, other, lanes, strict):
    """The first iteration of a line ahead of the one in which the other line, its c not 0, has the same index, or None.

    The iterations of both are in groups of lanes, and one is ahead of another one if its group is; if not strict,
    also if they are in one group.
    """
    step, gap, wide = crossing(line, other)
    modulus = wide * lanes
    found = []
    for residue in range(modulus):
        if (step * residue + gap) % wide == 0:
            # With one residue of i modulo wide * lanes, both i and j keep their numbers within their groups.
            within = (step * residue + gap) // wide % lanes
            slack = residue % lanes - within - (lanes if strict else 0)
            bounds = [(step, gap), (-step, wide * (other[2] - 1) - gap), (step - wide, gap + wide * slack)]
            low, high = interval(0, line[2] - 1, bounds)
            first = first_from(low, residue, modulus)
            if first <= high:
                found.append(first)
    return min(found, default=None)
