"""Points 14 and 15, read clause by clause, of programs of any length: for two arrays of a schedule, with layouts.

What does not hold fails an assertion.
"""

from tests.conflicts import offset_of
from tests.spots import all_places, element_of, event_moment, writes_of
from tests.walking import written_arrays


def is_plain(thing):
    """Whether a value has no parts but integers, strings and tuples."""
    if isinstance(thing, tuple):
        return all(is_plain(part) for part in thing)
    return type(thing) in (int, str)


def read_or_none(read, *things):
    """What is read of any values, or None if they do not hold."""
    if not is_plain(things):
        return None
    try:
        return read(*things)
    except (AssertionError, TypeError, ValueError, IndexError):
        return None


class CoverReader:
    def __init__(self, schedule, one, layout, other, other_layout):
        program = schedule.program
        self.sizes = dict(program.arrays)
        self.loops = program.loops
        self.outputs = program.outputs
        self.inputs = set(self.sizes) - written_arrays(program.loops)
        self.walks = schedule.walks
        self.counts = {place: count for place, count, _, _, _ in all_places(program.loops)}
        self.one, self.other = one, other
        self.layouts = {one: layout, other: other_layout}

    def element(self, kind, place, number):
        """The element of a write or a use, which has to exist."""
        if isinstance(place, str):
            assert place in (self.inputs if kind == "write" else self.outputs), place
            assert 0 <= number < self.sizes[place], (place, number)
            return place, number
        assert len(place) == (2 if kind == "write" else 3), place
        assert place in self.counts and 0 <= number < self.counts[place], (place, number)
        return element_of(self.loops, place, number)

    def write_of(self, element):
        if element[0] in self.inputs:
            return element
        write, = writes_of(self.loops, element)
        return write

    def moment(self, kind, event):
        return event_moment(self.loops, self.walks, kind, event)

    def member(self, family, t):
        """Member t as (x, y, write of y, distance): the first clause and the third one."""
        (write_place, write_number), (use_place, use_number), a, b, _ = family
        write, use = (write_place, write_number + a * t), (use_place, use_number + b * t)
        x, y = self.element("write", *write), self.element("use", *use)
        assert {x[0], y[0]} == {self.one, self.other}, (x, y)
        behind = self.write_of(y)
        assert self.moment("write", behind) < self.moment("write", write) < self.moment("use", use), (family, t)
        mine, its = (x, y) if x[0] == self.one else (y, x)
        distance = offset_of(self.layouts[self.other], its[1]) - offset_of(self.layouts[self.one], mine[1])
        return x, y, behind, distance

    def family(self, family):
        """(D, g, last) of a family that holds."""
        assert isinstance(family, tuple) and len(family) == 5
        write, use, a, b, last = family
        for number in (write[1], use[1], a, b, last):
            assert type(number) is int
        assert last >= 0
        x, y, behind, distance = self.member(family, 0)
        if last == 0:
            return distance, 0, 0
        end_x, end_y, end_behind, end_distance = self.member(family, last)
        assert behind[0] == end_behind[0] and (end_behind[1] - behind[1]) % last == 0, family
        self.hold_lanes([(write[0], a), (use[0], b), (behind[0], (end_behind[1] - behind[1]) // last)])
        for start, end in ((x, end_x), (y, end_y)):
            layout = self.layouts[start[0]]
            if not isinstance(layout, str):
                assert (end[1] - start[1]) // last % layout[1] == 0, family
        assert (end_distance - distance) % last == 0, family
        return distance, (end_distance - distance) // last, last

    def hold_lanes(self, changes):
        for at, (place, change) in enumerate(changes):
            for other, change_of_other in changes[:at]:
                if not isinstance(place, str) and not isinstance(other, str) and place[0] == other[0]:
                    if change != 0 and change_of_other != 0:
                        lanes = self.walks[place[0]][1]
                        assert change % lanes == 0 and change_of_other % lanes == 0, changes

    def cover(self, low, high, modulus, rest, families):
        """Return True if it is a cover."""
        assert isinstance(families, tuple)
        first, last = low + (rest - low) % modulus, high - (high - rest) % modulus
        if first > last:
            assert families == ()
            return True
        assert families
        reach = None
        for family in families:
            distance, g, many = self.family(family)
            assert g in (modulus, -modulus, 0), (family, modulus)
            assert distance % modulus == rest, (family, modulus, rest)
            least, most = sorted((distance, distance + g * many))
            assert least <= (first if reach is None else reach + modulus), families
            reach = most if reach is None else max(reach, most)
        assert reach >= last, families
        return True

    def is_family(self, thing):
        return read_or_none(self.family, thing) is not None

    def is_cover(self, low, high, modulus, rest, thing):
        return read_or_none(self.cover, low, high, modulus, rest, thing) is not None

    def parted(self, distances, low, high):
        """What is parted from low to high, its covers and its ends held; all that is told to be good is left to others."""
        told = distances.parted(low, high)
        assert isinstance(told, tuple) and len(told) == 2
        modulus, rows = told
        assert type(modulus) is int and modulus >= 1 and isinstance(rows, tuple) and len(rows) == modulus
        for rest, row in enumerate(rows):
            assert isinstance(row, tuple) and row
            begin = low
            for part in row:
                assert isinstance(part, tuple) and len(part) == 3
                least, most, families = part
                assert type(least) is int and type(most) is int and least == begin and most >= least, row
                if families is not None:
                    self.cover(least, most, modulus, rest, families)
                begin = most + 1
            assert begin == high + 1, row
        return modulus, rows
