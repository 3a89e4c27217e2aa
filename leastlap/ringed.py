"""What a window has of distances if its write goes to an array in a ring: progressions along the edges of bands.

Here per is 1 or -1, and it is the cell of the ring that has the distance slope n + base + per cell.
"""

from math import gcd

from leastlap.bands import bands_of
from leastlap.lines import interval
from leastlap.windows import value_at


def ring_pieces(window, form, m):
    """The conflicts of a window whose write goes to a ring of m, as progressions."""
    wide = m // gcd(window.write.line[0], m)
    found = []
    for band in bands_of(window):
        for rounds, edge in ring_edges(band, wide):
            found.extend(edge_pieces(band, form, m, rounds, edge))
    return found


def ring_edges(band, wide):
    """Rounds (low, high) and edges (line, sign, width) along which there is a write to each cell that a round has.

    From wide positions on, side by side, a round has all cells that any round can have.
    """
    if band.growth == 0:
        return [((band.low, band.high), (band.lower, 1, min(wide, band.width(band.low))))]
    low, high = interval(band.low, band.high, [(band.growth, band.width(0) - wide)])
    if low > high:
        low, high = band.high + 1, band.high
    # As the width changes from round to round, few rounds have fewer positions.
    narrow = list(range(band.low, low)) + list(range(high + 1, band.high + 1))
    found = [((n, n), (band.lower, 1, band.width(n))) for n in narrow]
    if low <= high:
        found.append(((low, high), best_edge(band, wide)))
    return found


def best_edge(band, wide):
    """The edge of a band, wide positions broad, that has a residue modulo wide again after fewer rounds."""
    if steps_of(band.lower, wide) <= steps_of(band.upper, wide):
        return band.lower, 1, wide
    return band.upper, -1, wide


def steps_of(line, wide):
    """After how many rounds a line has the same residue modulo wide."""
    return wide // gcd(line[0], wide)


def edge_pieces(band, form, m, rounds, edge):
    """Those along an edge (line, sign, width): of so many positions from the line on, inward by the sign."""
    low, high = rounds
    line, sign, width = edge
    slope, base, per = form
    c, d, _ = band.window.write.line
    parts = steps_of(line, m // gcd(c, m))
    cells = {}
    found = []
    for first in range(low, min(high, low + parts - 1) + 1):
        last = (high - first) // parts
        for at in range(width):
            i = value_at(line, first) + sign * at
            cell = (c * i + d) % m
            # If the distance does not change from round to round, one write to each cell is enough.
            if slope != 0 or cell not in cells:
                cells[cell] = True
                found.append(band.run((slope, base + per * cell, 0), first, i, parts, line[0] * parts, last))
    return found
