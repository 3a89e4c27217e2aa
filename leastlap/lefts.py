"""Lefts: the distances of two arrays that are left by all that is told of them."""

from math import gcd

from leastlap.lines import first_from


class Left:
    """The integers with a residue from low to high, which are among them; if there are none, low is above high."""

    def __init__(self, low, high, modulus, residue):
        self.low = first_from(low, residue, modulus)
        self.high = high - (high - residue) % modulus
        self.modulus = modulus
        self.residue = residue

    def is_empty(self):
        """Whether nothing is left."""
        return self.low > self.high

    def is_like(self, other):
        """Whether the same is told by another one, both having the same residue."""
        return (self.low, self.high, self.modulus) == (other.low, other.high, other.modulus)

    def opposite(self):
        """What is left of the same distances with the other sign."""
        return Left(-self.high, -self.low, self.modulus, -self.residue % self.modulus)

    def within(self, low, high):
        """What is left if it is told besides that it is from low to high."""
        return Left(max(low, self.low), min(high, self.high), self.modulus, self.residue)

    def alike(self, modulus, residue):
        """What is left if a residue is told besides."""
        both = common_residue(self.modulus, self.residue, modulus, residue)
        if both is None:
            return nothing_left()
        return Left(self.low, self.high, both[0], both[1])


def nothing_left():
    """What is left of distances of which nothing is left."""
    return Left(0, -1, 1, 0)


def inverse(number, modulus):
    """What the number, which has no factor in common with the modulus, has to be multiplied by to be 1 modulo it."""
    last, rest = modulus, number % modulus
    before, factor = 0, 1
    while rest != 0:
        many = last // rest
        last, rest = rest, last - many * rest
        before, factor = factor, before - many * factor
    return before % modulus


def common_residue(modulus, residue, other, other_residue):
    """The least common multiple of two moduli, with the residue modulo it that fits both residues, or None."""
    common = gcd(modulus, other)
    if (other_residue - residue) % common != 0:
        return None
    wide = other // common
    steps = (other_residue - residue) // common * inverse(modulus // common, wide) % wide
    return modulus * wide, residue + modulus * steps
