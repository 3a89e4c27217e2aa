"""Windows: the writes that come between the write of an element and a use of it.

A window tells of rounds: in round n, the use is in position wide n + rest of its stage, and of the write exactly the
positions from the greatest of some lines of n to the least of others are between. A line (slope, offset) has the value
slope n + offset. What is written between depends on the lanes, and so on residues of positions; within one window these
are the same in all rounds, so that nothing but lines is left.
"""

from math import gcd, lcm

from leastlap.lines import interval


class Window:
    """A write and a use with the rounds from low to high, in each of which some position of the write is between."""

    def __init__(self, write, use, wide, rest, low, high, lowers, uppers):
        self.write = write
        self.use = use
        self.wide = wide
        self.rest = rest
        self.low = low
        self.high = high
        self.lowers = lowers
        self.uppers = uppers

    def position(self, n):
        """The position of the use in a round."""
        return self.wide * n + self.rest

    def use_line(self):
        """The line of the indices that are used."""
        c, d, _ = self.use.line
        return c * self.wide, c * self.rest + d


def value_at(line, n):
    """The value of a line in round n."""
    return line[0] * n + line[1]


def line_within(line, parts, at):
    """The line by every parts-th round, from round number at on."""
    return line[0] * parts, value_at(line, at)


def rounds_within(low, high, parts, at):
    """The least and the greatest of the rounds from low to high, as line_within counts them."""
    return -((at - low) // parts), (high - at) // parts


def split_rounds(window, parts):
    """The windows of each residue of the rounds modulo parts, ascending; one without rounds has its low above high."""
    if parts == 1:
        return [window]
    found = []
    for at in range(parts):
        wide, rest = line_within((window.wide, window.rest), parts, at)
        low, high = rounds_within(window.low, window.high, parts, at)
        lowers = [line_within(line, parts, at) for line in window.lowers]
        uppers = [line_within(line, parts, at) for line in window.uppers]
        found.append(Window(window.write, window.use, wide, rest, low, high, lowers, uppers))
    return found


def last_ahead(write, use, position):
    """The last position of a write, perhaps beyond its stage, that is before a use in the same stage."""
    begin = position - position % write.lanes
    # In one group, the statements ahead of the one that reads have written all before.
    return begin + write.lanes - 1 if write.statement < use.statement else begin - 1


def first_behind(write, own, position):
    """The first position of a write, perhaps beyond its stage, that is behind another write in the same stage."""
    if write.statement == own.statement:
        return position + 1
    begin = position - position % write.lanes
    return begin if own.statement < write.statement else begin + write.lanes


def link_of(use, own):
    """How a use goes with the writes of what is used, by one place: two lines, and the least and the greatest round.

    The first line tells the position of the use, the second one that of the write. If there is none, it is None.
    """
    c, d, count = use.line
    k, e, many = own.line
    wide = abs(k) // gcd(c, k)
    rests = [rest for rest in range(wide) if (c * rest + d - e) % k == 0]
    if not rests:
        return None
    rest = rests[0]
    step, shift = c * wide // k, (c * rest + d - e) // k
    low, high = interval(0, (count - 1 - rest) // wide, [(step, shift), (-step, many - 1 - shift)])
    return ((wide, rest), (step, shift), low, high) if low <= high else None


def lane_parts(write, use, own, link):
    """Into how many residues the rounds of a link are parted, so that whatever changes does so by whole groups."""
    (wide, _), (step, _), _, _ = link
    parts = 1
    if own.stage == write.stage:
        parts = write.lanes // gcd(write.lanes, step)
    if use.stage == write.stage:
        parts = lcm(parts, write.lanes // gcd(write.lanes, wide))
    return parts


def windows_between(write, use, own, link):
    """The windows of a write between those of a place and the uses of what it writes."""
    uses, owns, least, most = link
    parts = lane_parts(write, use, own, link)
    found = []
    for at in range(parts):
        wide, rest = line_within(uses, parts, at)
        step, shift = line_within(owns, parts, at)
        lowers, uppers = [(0, 0)], [(0, write.line[2] - 1)]
        if own.stage == write.stage:
            lowers.insert(0, (step, first_behind(write, own, shift)))
        if use.stage == write.stage:
            uppers.insert(0, (wide, last_ahead(write, use, rest)))
        low, high = rounds_within(least, most, parts, at)
        rows = [(upper[0] - lower[0], upper[1] - lower[1]) for lower in lowers for upper in uppers]
        low, high = interval(low, high, rows)
        if low <= high:
            found.append(Window(write, use, wide, rest, low, high, lowers, uppers))
    return found


def windows_of(use, owns, writes):
    """All windows of some writes for a use of what some places write."""
    found = []
    for own in owns:
        link = link_of(use, own)
        if link is not None:
            for write in writes:
                if own.stage <= write.stage <= use.stage:
                    found.extend(windows_between(write, use, own, link))
    return found
