"""Bands: parts of windows with one line of least positions of the write and one of greatest ones.

In round n of a band, position i of the write has the distance slope n + base + per i: this is the form (slope, base,
per). So distances are those of a strip of points, seen from the side: columns, one for each round, that move with it.
"""

from leastlap.lines import interval
from leastlap.progressions import ascending
from leastlap.windows import value_at


class Band:
    """The rounds from low to high of a window, with the lines of the least and the greatest positions of the write."""

    def __init__(self, window, low, high, lower, upper):
        self.window = window
        self.low = low
        self.high = high
        self.lower = lower
        self.upper = upper
        self.growth = upper[0] - lower[0]

    def width(self, n):
        """The number of positions in a round."""
        return value_at(self.upper, n) - value_at(self.lower, n) + 1

    def run(self, form, n, i, turn, step, last):
        """The conflicts of round n and position i, and last further ones, each turn rounds and step positions on."""
        slope, base, per = form
        window = self.window
        return ascending(window.write, window.use, (i, window.position(n)), (step, window.wide * turn),
                         slope * n + base + per * i, slope * turn + per * step, last)

    def column(self, form, n):
        """All conflicts of a round."""
        return self.run(form, n, value_at(self.lower, n), 0, 1, self.width(n) - 1)

    def columns(self, form, rounds):
        """All conflicts of some rounds, a column for each."""
        return [self.column(form, n) for n in rounds]


def bands_of(window):
    """The bands of a window; no round is in two of them."""
    found = []
    for at, lower in enumerate(window.lowers):
        for spot, upper in enumerate(window.uppers):
            rows = rows_above(window.lowers, at, 1) + rows_above(window.uppers, spot, -1)
            low, high = interval(window.low, window.high, rows)
            if low <= high:
                found.append(Band(window, low, high, lower, upper))
    return found


def rows_above(lines, at, sign):
    """The rows of an interval in which one of some lines is the greatest, by its number; with a sign of -1, the least.

    Where it is not the only one, it has to be the first one of them.
    """
    slope, offset = lines[at]
    return [(sign * (slope - line[0]), sign * (offset - line[1]) - (1 if other < at else 0))
            for other, line in enumerate(lines) if other != at]
