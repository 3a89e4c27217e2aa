"""Problems: which first cells arrays may have, with a schedule and layouts, for all uses to find their own elements."""

from leastlap.distances import all_pieces, gather
from leastlap.errors import NoMemory
from leastlap.placements import Placement
from leastlap.ranges import EMPTY, ends_of, first_lefts, firsts_told, ranges_within
from leastlap.rings import rings


class Problem:
    """A schedule with layouts and told first cells; arrays go by their numbers, and first cells are lists.

    For each pair of arrays there are the rows of the bad distances, and progressions that have them. Raises NoMemory if
    no placement that fits is right.
    """

    def __init__(self, schedule, layouts, told):
        for name, layout in layouts:
            if not isinstance(layout, str) and layout[1] not in rings(schedule, name):
                raise NoMemory(("ring", name))
        self.program = schedule.program
        self.layouts = layouts
        self.names = [name for name, layout in layouts]
        self.many = len(layouts)
        self.spans = ends_of(self.program, layouts)
        self.told = firsts_told(self.program, told)
        self.bad = {}
        self.kept = {}
        for other, (other_name, other_layout) in enumerate(layouts):
            for one, (name, layout) in enumerate(layouts[:other]):
                pieces = all_pieces(schedule, name, layout, other_name, other_layout)
                self.bad[one, other], self.kept[one, other] = gather(pieces)
        self.check_told()

    def check_told(self):
        """Raise NoMemory if two arrays have told first cells and a bad distance."""
        for one, other in sorted(self.bad):
            if self.told[one] is not None and self.told[other] is not None:
                if self.bad[one, other].is_held(self.told[one] - self.told[other]):
                    raise NoMemory(("distance", self.names[one], self.names[other]))

    def ranges(self, cells):
        """The ranges of first cells within so many cells."""
        return ranges_within(self.spans, self.told, cells)

    def lefts_within(self, cells):
        """What is left of the distances at first, within so many cells."""
        return first_lefts(self.ranges(cells))

    def full_array(self, cells):
        """The name of the first array that cannot lie within so many cells, or None."""
        full = [name for name, ends in zip(self.names, self.ranges(cells)) if ends == EMPTY]
        return full[0] if full else None

    def floor(self, at):
        """The least first cell that an array may have."""
        return -self.spans[at][0] if self.told[at] is None else self.told[at]

    def told_arrays(self):
        """The arrays whose first cells are told."""
        return [at for at, first in enumerate(self.told) if first is not None]

    def anchors(self):
        """Arrays of which, in each least placement, one at least lies as low as it may."""
        return self.told_arrays()[:1] or list(range(self.many))

    def wrong_pairs(self, firsts):
        """The pairs of arrays that have bad distances."""
        return [(one, other) for one, other in self.bad if self.bad[one, other].is_held(firsts[one] - firsts[other])]

    def cells_of(self, firsts):
        """The size of a placement."""
        return max([first + high for first, (low, high) in zip(firsts, self.spans)]) + 1

    def fits(self, firsts, cells):
        """Whether a placement, no array being too low, is right and has the told first cells, within so many cells."""
        if any([firsts[at] != self.told[at] for at in self.told_arrays()]):
            return False
        return self.cells_of(firsts) <= cells and not self.wrong_pairs(firsts)

    def laid_apart(self):
        """First cells with which all arrays that are not told lie behind the others, one behind the other."""
        behind = max([self.told[at] + self.spans[at][1] + 1 for at in self.told_arrays()], default=0)
        firsts = list(self.told)
        for at, (low, high) in enumerate(self.spans):
            if firsts[at] is None:
                firsts[at] = behind - low
                behind += high - low + 1
        return firsts

    def placement_of(self, firsts):
        """The placement with these first cells."""
        places = [(name, first, layout) for (name, layout), first in zip(self.layouts, firsts)]
        return Placement(self.program, *places)
