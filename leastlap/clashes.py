"""Where the writes of a window go to the very cell of what is used, with a first cell and a layout of both arrays."""

from math import gcd, lcm

from leastlap.layouts import high_of, low_of
from leastlap.lines import first_from, interval
from leastlap.windows import last_ahead, split_rounds, windows_of

MISSED = (0, -1)


def solution(c, worth, m):
    """The residue of all i modulo m // gcd(c, m) with c i equal to a worth modulo m, or None."""
    rests = [i for i in range(m // gcd(c, m)) if (c * i - worth) % m == 0]
    return rests[0] if rests else None


def cell_line(window, place):
    """The line of the cells that are used; in a ring, these must be the same ones in all rounds."""
    first, layout = place
    slope, offset = window.use_line()
    if layout == "up":
        return slope, first + offset
    if layout == "down":
        return -slope, first - offset
    return 0, first + offset % layout[1]


def parts_of(window, write_place, use_place):
    """Into how many residues the rounds are parted, so that all that is asked is a matter of lines."""
    c = window.write.line[0]
    layout, use_layout = write_place[1], use_place[1]
    slope, _ = window.use_line()
    parts = 1
    if not isinstance(use_layout, str):
        parts = use_layout[1] // gcd(use_layout[1], slope)
        slope = 0
    if isinstance(layout, str):
        return lcm(parts, abs(c) // gcd(c, slope))
    m = layout[1]
    wide = m // gcd(c, m)
    parts = lcm(parts, m // gcd(m, slope))
    for line in window.lowers:
        parts = lcm(parts, wide // gcd(wide, line[0]))
    return parts


def straight_rounds(window, place, cells):
    """The least and the greatest round in which an array up or down is written in the cell that is used."""
    first, layout = place
    c, d, _ = window.write.line
    slope, offset = cells[0], cells[1] - first
    if layout == "down":
        slope, offset = -slope, -offset
    if (offset - d) % c != 0:
        return MISSED
    slope, offset = slope // c, (offset - d) // c
    rows = [(slope - line[0], offset - line[1]) for line in window.lowers]
    rows.extend([(line[0] - slope, line[1] - offset) for line in window.uppers])
    return interval(window.low, window.high, rows)


def ring_rounds(window, place, cells):
    """The least and the greatest round in which an array in a ring is written in the cell that is used."""
    first, (_, m) = place
    c, d, _ = window.write.line
    slope, offset = cells[0], cells[1] - first
    rest = solution(c, offset - d, m)
    if rest is None:
        return MISSED
    wide = m // gcd(c, m)
    rows = [(slope, offset), (-slope, m - 1 - offset)]
    for line in window.lowers:
        least = first_from(line[1], rest, wide)
        rows.extend([(upper[0] - line[0], upper[1] - least) for upper in window.uppers])
    return interval(window.low, window.high, rows)


def first_clash(window, write_place, use_place):
    """The first round in which a write of a window goes to the cell of what is used, or None.

    A place is a pair of a first cell and a layout. Both arrays may be the same one if it lies in a ring.
    """
    parts = parts_of(window, write_place, use_place)
    found = []
    for at, part in enumerate(split_rounds(window, parts)):
        cells = cell_line(part, use_place)
        if isinstance(write_place[1], str):
            low, high = straight_rounds(part, write_place, cells)
        else:
            low, high = ring_rounds(part, write_place, cells)
        if low <= high:
            found.append(low * parts + at)
    return min(found, default=None)


def may_meet(placement, name, other):
    """Whether two different elements of two arrays, or of one, may lie in one cell."""
    first, layout = placement[name]
    second, other_layout = placement[other]
    if name == other:
        return not isinstance(layout, str)
    size, other_size = placement.program.size_of(name), placement.program.size_of(other)
    return (first + low_of(layout, size) <= second + high_of(other_layout, other_size)
            and second + low_of(other_layout, other_size) <= first + high_of(layout, size))


def first_wrong(placement, uses, writes):
    """The first of some uses that finds another element than its own, as (moment, use, position), or None."""
    best = None
    for use in uses:
        owns = [write for write in writes if write.name == use.name]
        rivals = [write for write in writes if may_meet(placement, write.name, use.name)]
        for window in windows_of(use, owns, rivals):
            # Most windows begin too late to be asked further.
            if best is None or use.moment(window.position(window.low)) < best[0]:
                n = first_clash(window, placement[window.write.name], placement[use.name])
                if n is not None:
                    position = window.position(n)
                    found = (use.moment(position), use, position)
                    best = found if best is None or found[0] < best[0] else best
    return best


def last_to_cell(write, place, cell, use, position):
    """The last position before a use in which a write goes to a cell, or None."""
    if write.stage > use.stage:
        return None
    c, d, count = write.line
    last = count - 1
    if write.stage == use.stage:
        last = min(last, last_ahead(write, use, position))
    first, layout = place
    if isinstance(layout, str):
        index = cell - first if layout == "up" else first - cell
        at, rest = divmod(index - d, c)
        return at if rest == 0 and 0 <= at <= last else None
    m = layout[1]
    rest = solution(c, cell - first - d, m)
    if not 0 <= cell - first < m or rest is None:
        return None
    at = last - (last - rest) % (m // gcd(c, m))
    return at if at >= 0 else None


def last_element(placement, writes, use, position):
    """The element that was written last, before a use, to the cell of what is used."""
    cell = placement.cell((use.name, use.index_at(position)))
    best = None
    for write in writes:
        at = last_to_cell(write, placement[write.name], cell, use, position)
        if at is not None:
            found = (write.moment(at), (write.name, write.index_at(at)))
            best = found if best is None else max(best, found)
    return best[1]
