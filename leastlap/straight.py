"""What a window has of distances if its write goes to an array up or down: progressions, and sweeps of columns."""

from math import gcd

from leastlap.bands import bands_of
from leastlap.lines import first_from, interval
from leastlap.progressions import FEW
from leastlap.windows import value_at


class Sweep:
    """The columns of some rounds of a band that, put together, leave no gap.

    Of many rounds, by turn each, all columns are higher than the ones before them, at both ends.
    """

    def __init__(self, band, form, first, turn, many):
        slope, base, per = form
        bottom, top = (band.lower, band.upper) if per > 0 else (band.upper, band.lower)
        end = first + turn * (many - 1)
        self.band = band
        self.form = form
        self.rounds = first, turn, many
        self.start = slope * first + base + per * value_at(bottom, first)
        self.step = abs(per)
        self.last = (slope * end + base + per * value_at(top, end) - self.start) // self.step
        # By how much the lower and the upper ends of the columns rise.
        self.rises = (slope + per * bottom[0]) * turn, (slope + per * top[0]) * turn
        self.edges = bottom, top
        self.grain = min(self.rises)

    def progressions(self):
        """Progressions along the edge that rises less, as broad as it rises, and the column that they leave."""
        if self.rises[0] <= self.rises[1]:
            return self.along_bottom()
        return self.along_top()

    def along_bottom(self):
        """Those along the lower ends, and the last column."""
        first, turn, many = self.rounds
        return self.along(first, self.edges[0], 1) + [self.band.column(self.form, first + turn * (many - 1))]

    def along_top(self):
        """Those along the upper ends, and the first column."""
        first, turn, _ = self.rounds
        return self.along(first + turn, self.edges[1], -1) + [self.band.column(self.form, first)]

    def along(self, first, edge, sign):
        """Progressions along an edge, from a round on, one behind the other."""
        _, turn, many = self.rounds
        inward = sign if self.form[2] > 0 else -sign
        found = []
        for at in range(self.grain // self.step):
            i = value_at(edge, first) + inward * at
            found.append(self.band.run(self.form, first, i, turn, edge[0] * turn, many - 2))
        return found


def straight_pieces(window, form):
    """The conflicts of a window, with a form of which per is not 0, as progressions and sweeps."""
    found = []
    for band in bands_of(window):
        if band.growth == 0:
            found.extend(even_pieces(band, form))
        else:
            found.extend(track_pieces(band, form))
    return found


def even_pieces(band, form):
    """Those of a band in which all columns are equally high."""
    slope, _, per = form
    rise = slope + per * band.lower[0]
    width = band.width(band.low)
    many = band.high - band.low + 1
    common = gcd(rise, per)
    if rise == 0:
        return [band.column(form, band.low)]
    if many <= max(min(width, FEW), abs(per) // common):
        return band.columns(form, list(range(band.low, band.high + 1)))
    if width <= abs(rise) // common:
        start = value_at(band.lower, band.low)
        return [band.run(form, band.low, start + at, 1, band.lower[0], many - 1) for at in range(width)]
    return track_pieces(band, form)


def edge_runs(band, form):
    """Those along the edges of a band, if the distances rise by less there than from one position to the next one.

    With them a lesser modulus is often enough.
    """
    slope, _, per = form
    found = []
    for line, inward in ((band.lower, 1), (band.upper, -1)):
        rise = slope + per * line[0]
        if 0 < abs(rise) < abs(per):
            width = min(abs(rise) // gcd(rise, per), band.width(band.low), band.width(band.high))
            for at in range(width):
                i = value_at(line, band.low) + inward * at
                found.append(band.run(form, band.low, i, 1, line[0], band.high - band.low))
    return found


def track_pieces(band, form):
    """Those of a band in which columns touch, but for few rounds."""
    slope, _, per = form
    parts = abs(per) // gcd(per, slope)
    found = edge_runs(band, form)
    for at in range(parts):
        low = first_from(band.low, at, parts)
        high = band.high - (band.high - at) % parts
        if low <= high:
            found.extend(moving_pieces(band, form, low, high, parts))
    return found


def moving_pieces(band, form, low, high, parts):
    """Those of every so many rounds, so that the distances of all columns are equal modulo per."""
    slope, _, per = form
    ends = slope + per * band.lower[0], slope + per * band.upper[0]
    bottom, top = ends if per > 0 else (ends[1], ends[0])
    # If one end rises and the other one falls, one column holds all others.
    if bottom <= 0 <= top:
        return [band.column(form, high)]
    if top <= 0 <= bottom:
        return [band.column(form, low)]
    if bottom > 0:
        return rising_pieces(band, form, low, parts, (high - low) // parts + 1, bottom * parts // abs(per))
    return rising_pieces(band, form, high, -parts, (high - low) // parts + 1, -bottom * parts // abs(per))


def rising_pieces(band, form, first, turn, many, need):
    """Those of many rounds, by turn each, with which the columns rise; one of need conflicts touches the next one."""
    low, high = interval(0, many - 1, [(band.growth * turn, band.width(first) - need)])
    if low > high:
        return band.columns(form, [first + turn * k for k in range(many)])
    high = min(high + 1, many - 1)
    apart = [first + turn * k for k in range(low)] + [first + turn * k for k in range(high + 1, many)]
    touching = high - low + 1
    if touching <= max(need, FEW):
        return band.columns(form, apart + [first + turn * k for k in range(low, high + 1)])
    return band.columns(form, apart) + [Sweep(band, form, first + turn * low, turn, touching)]
