"""Distances: with which ones two arrays have conflicts, at all lengths."""

from math import gcd

from leastlap.parts import row_parts, strands_of
from leastlap.progressions import FEW
from leastlap.ringed import ring_pieces
from leastlap.rows import Rows, first_difference
from leastlap.stages import accesses_to, stage_uses, stage_writes
from leastlap.straight import straight_pieces
from leastlap.windows import split_rounds, windows_of


def window_pieces(window, layout, use_layout, sign):
    """The conflicts of a window, with the layouts of the arrays of its write and of its use.

    With a sign of 1 the distances are those of the written array to the used one; otherwise, of -1.
    """
    slope, offset = window.use_line()
    if isinstance(use_layout, str):
        forward = 1 if use_layout == "up" else -1
        return write_pieces(window, layout, sign, (forward * slope, forward * offset))
    m = use_layout[1]
    found = []
    for part in split_rounds(window, m // gcd(m, slope)):
        _, index = part.use_line()
        found.extend(write_pieces(part, layout, sign, (0, index % m)))
    return found


def write_pieces(window, layout, sign, line):
    """Those of a window, with a line of the cells that are used, less the first one."""
    slope, base = sign * line[0], sign * line[1]
    c, d, _ = window.write.line
    if isinstance(layout, str):
        forward = sign if layout == "up" else -sign
        return straight_pieces(window, (slope, base - forward * d, -forward * c))
    return ring_pieces(window, (slope, base, -sign), layout[1])


def all_pieces(schedule, one, layout, other, other_layout):
    """All conflicts of two arrays."""
    writes, uses = stage_writes(schedule), stage_uses(schedule)
    found = []
    for name, own, use_name, use_layout, sign in ((one, layout, other, other_layout, 1),
                                                  (other, other_layout, one, layout, -1)):
        owns, rivals = accesses_to(writes, use_name), accesses_to(writes, name)
        for use in accesses_to(uses, use_name):
            for window in windows_of(use, owns, rivals):
                found.extend(window_pieces(window, own, use_layout, sign))
    return found


def gather(pieces):
    """The rows of all distances of some pieces, and progressions that have just these distances."""
    rows, kept = Rows(), []
    for piece in sorted(pieces, key=rank_of):
        if rows.left_out(piece.start, piece.step, piece.last) is not None:
            for progression in piece.progressions():
                parts = new_parts(rows, progression)
                for part in parts:
                    rows.fit(part.grain)
                    rows.hold(part.start, part.step, part.last)
                kept.extend(parts)
    return rows, kept


def rank_of(piece):
    """What is less for a piece that is added earlier.

    What needs the least modulus comes first, so that much of what needs greater ones is held by then.
    """
    return piece.grain, -piece.step * piece.last


def new_parts(rows, progression):
    """What has to be added of a progression to what rows hold."""
    ends = rows.left_out(progression.start, progression.step, progression.last)
    if ends is None:
        return []
    first, end = ends
    if end - first < FEW:
        return [progression.part(at, 1, 0) for at in range(first, end + 1)]
    return [progression.part(first, 1, end - first)]


class Distances:
    """What is good and bad of two arrays with layouts."""

    def __init__(self, schedule, one, layout, other, other_layout):
        self.schedule = schedule
        self.one = one
        self.layout = layout
        self.other = other
        self.other_layout = other_layout
        self._bad, self._kept = gather(all_pieces(schedule, one, layout, other, other_layout))

    def __eq__(self, other):
        return (isinstance(other, Distances) and self.schedule == other.schedule and self.one == other.one
                and self.layout == other.layout and self.other == other.other
                and self.other_layout == other.other_layout)

    @property
    def least_bad(self):
        """The least bad distance, or None."""
        return min([row[0][0] for row in self._bad.rows if row], default=None)

    @property
    def greatest_bad(self):
        """The greatest bad distance, or None."""
        return max([row[-1][1] for row in self._bad.rows if row], default=None)

    def is_good(self, distance):
        """Whether no two elements of the arrays have a conflict with a distance."""
        return not self._bad.is_held(distance)

    def next_good(self, start, *, step=1):
        """The first good one of start, start + step, start + 2 step .., the step being 1 or -1."""
        return self._bad.first_free(start, step)

    def count_bad(self, low, high):
        """How many distances from low to high are bad."""
        return self._bad.count_held(low, high)

    def first_unlike(self, others):
        """The first of 0, 1, -1, 2 .. that is bad for only one of the two, with whether it is for this one, or None."""
        distance = first_difference(self._bad, others._bad)
        return None if distance is None else (distance, self._bad.is_held(distance))

    def parted(self, low, high):
        """A modulus, and for each residue the parts (low, high, families) of the distances from low to high.

        The families are a cover of the distances of a part with this residue, or None if all of them are good.
        """
        modulus = self._bad.modulus
        strands = strands_of(self._kept, modulus)
        rows = [row_parts(row, low, high, rest, strands[rest], modulus) for rest, row in enumerate(self._bad.rows)]
        return modulus, tuple(rows)
