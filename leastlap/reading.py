"""Reading any values as trees against a size."""

from math import gcd

from leastlap.checks import is_row, is_whole
from leastlap.couples import Couple
from leastlap.families import is_cover
from leastlap.ranges import EMPTY, ends_of, first_lefts, firsts_told, ranges_within, with_left


def adds_up(sides):
    """Whether numbers that are left of some sides may add up to 0, by their bounds."""
    return sum([side.high for side in sides]) >= 0


def is_even_round(sides):
    """Whether numbers that are left of some sides may add up to 0, by their residues."""
    common = 0
    for side in sides:
        common = gcd(common, side.modulus)
    return sum([side.residue for side in sides]) % common == 0


def is_row_of(thing, left):
    """Whether any value is a row of parts, end to end, that holds all that is left; their trees aside."""
    if left.is_empty():
        return is_row(thing, 0, 0)
    if not (isinstance(thing, tuple) and thing and all([is_part(part) for part in thing])):
        return False
    ends = [high for low, high, below in thing]
    begins = [low for low, high, below in thing]
    return begins[0] <= left.low and left.high <= ends[-1] and begins[1:] == [end + 1 for end in ends[:-1]]


def is_part(thing):
    """Whether any value is a part from a low to a high integer with something below."""
    return is_row(thing, 3, 3) and is_whole(thing[0]) and is_whole(thing[1]) and thing[0] <= thing[1]


class Reader:
    """Reads trees against a size, with a schedule, layouts and told first cells; arrays go by their numbers."""

    def __init__(self, schedule, layouts, cells, told):
        program = schedule.program
        self.numbers = {name: at for at, (name, layout) in enumerate(layouts)}
        self.ranges = ranges_within(ends_of(program, layouts), firsts_told(program, told), cells)
        self.couples = {}
        for other, (name, layout) in enumerate(layouts):
            for one, (first, first_layout) in enumerate(layouts[:other]):
                self.couples[one, other] = Couple(schedule, first, first_layout, name, layout)

    def is_tree(self, thing):
        """Whether any value is a tree; it may be of any depth."""
        todo = [(thing, first_lefts(self.ranges))]
        while todo:
            tree, lefts = todo.pop()
            if is_row(tree, 5, 5):
                below = self.trees_below(tree, lefts)
                if below is None:
                    return False
                todo.extend(below)
            elif not self.is_leaf(tree, lefts):
                return False
        return True

    def is_leaf(self, thing, lefts):
        """Whether any value is a tree without parts."""
        if is_row(thing, 3, 3):
            return thing[0] == "none" and self.is_none(thing[1], thing[2], lefts)
        if not is_row(thing, 2, 2):
            return False
        kind, about = thing
        if kind == "full":
            return self.is_array(about) and self.is_full(about)
        if kind not in ("round", "residues") or not self.is_round(about):
            return False
        sides = self.sides(about, lefts)
        if any([side.is_empty() for side in sides]):
            return False
        return not (adds_up(sides) if kind == "round" else is_even_round(sides))

    def is_array(self, name):
        """Whether any value is the name of an array."""
        return isinstance(name, str) and name in self.numbers

    def is_full(self, name):
        """Whether the range of an array is empty."""
        return self.ranges[self.numbers[name]] == EMPTY

    def is_pair(self, one, other):
        """Whether any two values are the names of arrays, the first one being less."""
        return self.is_array(one) and self.is_array(other) and one < other

    def is_none(self, one, other, lefts):
        """Whether nothing is left of any two values, although neither range is empty."""
        if not self.is_pair(one, other) or self.is_full(one) or self.is_full(other):
            return False
        return lefts[self.numbers[one], self.numbers[other]].is_empty()

    def is_round(self, thing):
        """Whether any value is a tuple of two or more names of arrays, each once."""
        if not is_row(thing, 2, len(self.numbers)):
            return False
        return all([self.is_array(name) for name in thing]) and len(set(thing)) == len(thing)

    def sides(self, names, lefts):
        """What is left of the distance of each array of a round to the next one."""
        found = []
        for at, name in enumerate(names):
            one, other = self.numbers[names[at - 1]], self.numbers[name]
            found.append(lefts[one, other] if one < other else lefts[other, one].opposite())
        return found

    def trees_below(self, tree, lefts):
        """The trees below a tuple that parts a pair, each with what is left in it; None if it is no such tuple."""
        kind, one, other, modulus, rows = tree
        if kind != "parts" or not self.is_pair(one, other):
            return None
        if not (is_whole(modulus) and modulus >= 1 and is_row(rows, modulus, modulus)):
            return None
        pair = self.numbers[one], self.numbers[other]
        if lefts[pair].is_empty():
            return None
        found = []
        for rest, row in enumerate(rows):
            left = lefts[pair].alike(modulus, rest)
            if not is_row_of(row, left):
                return None
            for low, high, below in row:
                if not is_row(below, 2, 2) or below[0] != "cover":
                    found.append((below, with_left(lefts, pair, left.within(low, high))))
                elif not is_cover(self.couples[pair], low, high, modulus, rest, below[1]):
                    return None
        return found
