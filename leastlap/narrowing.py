"""Narrowing: what is left of the distances of arrays by all that follows from what is told of others."""

from math import gcd, lcm

from leastlap.lefts import common_residue
from leastlap.rounds import bounds_of, closed, is_broken

# Bounds and residues may narrow each other again and again, up to the lengths of arrays; a few times are enough, since
# all that is left open is parted.
SWEEPS = 4


def residue_of(known, one, other):
    """The modulus and the residue of the distance of an array to another one, in any order."""
    if one < other:
        return known[one, other]
    modulus, residue = known[other, one]
    return modulus, -residue


def known_residues(lefts, many):
    """For each pair the modulus and the residue that follow from all that are told, or None if they contradict."""
    known = {pair: (left.modulus, left.residue) for pair, left in lefts.items()}
    for middle in range(many):
        for one, other in lefts:
            if middle not in (one, other):
                wide, residue = residue_of(known, one, middle)
                onward, further = residue_of(known, middle, other)
                common = gcd(wide, onward)
                if common > 1:
                    modulus, rest = known[one, other]
                    both = common_residue(modulus, rest, common, (residue + further) % common)
                    if both is None:
                        return None
                    known[one, other] = both
    return known


def common_modulus(lefts):
    """The least common multiple of all moduli that are told."""
    modulus = 1
    for left in lefts.values():
        modulus = lcm(modulus, left.modulus)
    return modulus


class Narrowing:
    """What is left of the distances of so many arrays, narrowed step by step, as far as a few sweeps go.

    A step (pair, (low, high), (modulus, residue)) tells an interval and a residue of a pair. It follows at once from
    what is left ahead of it: each other part of the pair has a round that cannot add up to 0. Near are the bounds that
    follow. If nothing is left, it fails.
    """

    def __init__(self, lefts, many):
        self.lefts = {pair: lefts[pair] for pair in lefts}
        self.many = many
        self.steps = []
        self.near = []
        self.fails = any([left.is_empty() for left in lefts.values()])
        self.narrow_all()

    def narrow_all(self):
        """Narrow all pairs as often as it may be of use."""
        self.bound()
        for _ in range(SWEEPS):
            if self.fails or not self.sweep():
                return
            self.bound()
        for pair in list(self.lefts):
            self.narrow(pair, 1, 0)

    def bound(self):
        """Tell the bounds that follow."""
        if not self.fails:
            self.near = closed(bounds_of(self.lefts, self.many))
            self.fails = is_broken(self.near)

    def sweep(self):
        """Narrow each pair once; whether one of them was narrowed."""
        modulus = common_modulus(self.lefts)
        if modulus == 1:
            return False
        many = len(self.steps)
        for pair in list(self.lefts):
            low, high = self.ends(pair)
            if low == high:
                self.narrow(pair, modulus, low % modulus)
        known = None if self.fails else known_residues(self.lefts, self.many)
        self.fails = known is None
        for pair in list(self.lefts):
            if not self.fails:
                self.narrow(pair, known[pair][0], known[pair][1])
        return len(self.steps) > many

    def ends(self, pair):
        """The least and the greatest distance of a pair by the bounds that follow."""
        one, other = pair
        return -self.near[other][one], self.near[one][other]

    def narrow(self, pair, modulus, residue):
        """Tell the bounds that follow, and a residue, if it is more than is told; not once it fails."""
        low, high = self.ends(pair)
        before = self.lefts[pair]
        left = before.within(low, high).alike(modulus, residue)
        is_more = left.is_empty() or left.modulus > before.modulus or left.low > low or left.high < high
        if is_more and not self.fails:
            self.steps.append((pair, (low, high), (modulus, residue)))
            self.lefts[pair] = left
            self.fails = left.is_empty()
