"""Rounds of arrays whose distances cannot go together, since those from each one to the next have to add up to 0.

Bounds tell for any two arrays, by their numbers, the greatest distance of the one to the other.
"""

from math import gcd


def side_of(lefts, one, other):
    """What is left of the distance of an array to another one, in any order."""
    return lefts[one, other] if one < other else lefts[other, one].opposite()


def bounds_of(lefts, many):
    """The bounds by what is left of the distances of so many arrays, something being left of each."""
    bounds = [[0] * many for _ in range(many)]
    for (one, other), left in lefts.items():
        bounds[one][other] = left.high
        bounds[other][one] = -left.low
    return bounds


def closed(bounds):
    """The bounds that follow by way of other arrays."""
    near = bounds
    for middle in range(len(bounds)):
        onward = near[middle]
        near = [[min(far, row[middle] + onward[at]) for at, far in enumerate(row)] for row in near]
    return near


def is_broken(near):
    """Whether there is a round with a sum below 0, by the bounds that follow."""
    return min([row[at] for at, row in enumerate(near)]) < 0


def longer_walks(walks, bounds):
    """The least sums of the walks from each array to each one that are one step longer."""
    ends = list(range(len(bounds)))
    return [[min([row[at] + bounds[at][end] for at in ends if at != end]) for end in ends] for row in walks]


def broken_round(bounds):
    """As few arrays as possible, in order, with a sum of bounds from each to the next one that is below 0."""
    layers = [bounds]
    while not is_broken(layers[-1]):
        layers.append(longer_walks(layers[-1], bounds))
    last = layers[-1]
    start = [at for at, row in enumerate(last) if row[at] < 0][0]
    found = [start]
    for walks in layers[-2::-1]:
        end = found[-1]
        steps = [(walks[start][at] + bounds[at][end], at) for at in range(len(bounds)) if at != end]
        found.append(min(steps)[1])
    return found[::-1]


def sides_of(lefts, path):
    """What is left of the distances from each array of a round to the next one, that from the last one first."""
    return [side_of(lefts, path[at - 1], other) for at, other in enumerate(path)]


def is_uneven(sides):
    """Whether the residues from each array of a round to the next one cannot add up to 0."""
    common = 0
    for side in sides:
        common = gcd(common, side.modulus)
    return sum([side.residue for side in sides]) % common != 0


def uneven_round(lefts, many):
    """As few arrays as possible, in order, with residues that cannot add up to 0, or None."""
    paths = [[at] for at in range(many)]
    while paths:
        for path in paths:
            if len(path) > 2 and is_uneven(sides_of(lefts, path)):
                return path
        paths = [path + [at] for path in paths for at in range(path[0] + 1, many) if at not in path]
    return None


def short_round(lefts, pair, many):
    """A round of a pair and a third array that cannot go together, as (kind, arrays), or None.

    Something is left of each distance.
    """
    for third in [at for at in range(many) if at not in pair]:
        path = [pair[0], pair[1], third]
        sides = sides_of(lefts, path)
        if sum([side.high for side in sides]) < 0:
            return "round", path
        if sum([side.low for side in sides]) > 0:
            return "round", path[::-1]
        if is_uneven(sides):
            return "residues", path
    return None
