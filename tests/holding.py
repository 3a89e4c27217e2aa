"""Point 16, read clause by clause with all that is left as lists of integers: for sizes of few cells."""

from itertools import combinations
from math import gcd, lcm

from tests.covers import CoverReader, is_plain
from tests.least import ranges_within


class TreeReader:
    """Reads trees; what is told of a pair is (low, high, residues), residues being pairs of a modulus and a residue."""

    def __init__(self, schedule, layouts, size, told):
        arrays = schedule.program.arrays
        self.layouts = dict(layouts)
        self.ranges = ranges_within(arrays, self.layouts, told, size)
        self.schedule = schedule
        self.readers = {}
        for (one, _), (other, _) in combinations(arrays, 2):
            self.readers[one, other] = CoverReader(schedule, one, self.layouts[one], other, self.layouts[other])

    def at_first(self):
        """What is told of all pairs ahead of all parts."""
        found = {}
        for one, other in self.readers:
            mine, its = self.ranges[one], self.ranges[other]
            found[one, other] = (mine[0] - its[-1], mine[-1] - its[0], ((1, 0),)) if mine and its else (0, -1, ())
        return found

    def left(self, told, one, other):
        """All that is left of the distance of an array to another one, in any order."""
        if one > other:
            return [-distance for distance in self.left(told, other, one)]
        low, high, residues = told[one, other]
        return [k for k in range(low, high + 1) if all(k % modulus == rest for modulus, rest in residues)]

    def residue(self, told, one, other):
        """The modulus and the residue of a distance of which something is left."""
        _, _, residues = told[min(one, other), max(one, other)]
        modulus = lcm(*[modulus for modulus, _ in residues])
        return modulus, self.left(told, one, other)[0] % modulus

    def is_tree(self, thing, told=None):
        if told is None:
            if not is_plain(thing):
                return False
            told = self.at_first()
        if not isinstance(thing, tuple) or not thing:
            return False
        if thing[0] == "parts":
            return len(thing) == 5 and self.is_parted(*thing[1:], told)
        if thing[0] == "full":
            return len(thing) == 2 and thing[1] in self.ranges and not self.ranges[thing[1]]
        if thing[0] == "none":
            return len(thing) == 3 and thing[1:] in self.readers and not self.left(told, *thing[1:]) and all(
                self.ranges[name] for name in thing[1:])
        if thing[0] in ("round", "residues"):
            return len(thing) == 2 and self.is_round(thing[0], thing[1], told)
        return False

    def is_round(self, kind, names, told):
        if not isinstance(names, tuple) or len(names) < 2 or any(name not in self.ranges for name in names):
            return False
        if len(set(names)) < len(names):
            return False
        sides = list(zip(names, names[1:] + names[:1]))
        if not all(self.left(told, *side) for side in sides):
            return False
        if kind == "round":
            return sum(max(self.left(told, *side)) for side in sides) < 0
        residues = [self.residue(told, *side) for side in sides]
        return sum(rest for _, rest in residues) % gcd(*[modulus for modulus, _ in residues]) != 0

    def is_parted(self, one, other, modulus, rows, told):
        if (one, other) not in self.readers or type(modulus) is not int or modulus < 1:
            return False
        left = self.left(told, one, other)
        if not left or not isinstance(rows, tuple) or len(rows) != modulus:
            return False
        return all(self.is_row(one, other, modulus, rest, row, [k for k in left if k % modulus == rest], told)
                   for rest, row in enumerate(rows))

    def is_row(self, one, other, modulus, rest, row, left, told):
        if not isinstance(row, tuple) or bool(row) != bool(left):
            return False
        behind = None
        for part in row:
            if not isinstance(part, tuple) or len(part) != 3:
                return False
            low, high, below = part
            if type(low) is not int or type(high) is not int or low > high or behind not in (None, low - 1):
                return False
            behind = high
            if not self.is_below(one, other, modulus, rest, low, high, below, told):
                return False
        return not row or row[0][0] <= left[0] and left[-1] <= behind

    def is_below(self, one, other, modulus, rest, low, high, below, told):
        if isinstance(below, tuple) and below and below[0] == "cover":
            return len(below) == 2 and self.readers[one, other].is_cover(low, high, modulus, rest, below[1])
        least, most, residues = told[one, other]
        inside = max(low, least), min(high, most), residues + ((modulus, rest),)
        return self.is_tree(below, {**told, (one, other): inside})
