"""Placements: in which cells of the memory the arrays of a program lie."""

from leastlap.checks import is_row, is_whole
from leastlap.errors import InvalidText, NoPlacement
from leastlap.layouts import high_of, is_layout, layout_text, low_of, offset_of, read_layout
from leastlap.numerals import number_text, read_number


def is_place(thing, program):
    """Whether a value tells of an array of a program where it lies, with no cell below 0."""
    if not (is_row(thing, 3, 3) and thing[0] in program and is_whole(thing[1]) and is_layout(thing[2])):
        return False
    name, first, layout = thing
    return first + low_of(layout, program.size_of(name)) >= 0


def read_place(line):
    """The place that a line tells."""
    name, _, rest = line.partition(" ")
    first, _, layout = rest.partition(" ")
    return name, read_number(first), read_layout(layout)


class Placement:
    """A program, with a first cell and a layout for each array."""

    def __init__(self, program, *places):
        if not all([is_place(place, program) for place in places]):
            raise NoPlacement()
        spots = {name: (first, layout) for name, first, layout in places}
        if len(places) != len(program.arrays) or len(spots) != len(places):
            raise NoPlacement()
        self.program = program
        self.places = tuple([(name,) + spots[name] for name, size in program.arrays])
        self._spots = spots

    def __eq__(self, other):
        return isinstance(other, Placement) and self.program == other.program and self.places == other.places

    def __getitem__(self, at):
        return self._spots[at]

    def __iter__(self):
        raise TypeError("a placement is not iterated over")

    @property
    def size(self):
        """The number of cells up to the last one of an array."""
        program = self.program
        return max([first + high_of(layout, program.size_of(name)) for name, first, layout in self.places]) + 1

    @property
    def text(self):
        """The text of the placement."""
        lines = [f"{name} {number_text(first)} {layout_text(layout)}" for name, first, layout in self.places]
        return "\n".join(lines)

    @classmethod
    def read(cls, program, text):
        """The placement with a text; raises InvalidText() for any value that is none."""
        if not isinstance(text, str):
            raise InvalidText()
        places = [read_place(line) for line in text.split("\n")]
        try:
            placement = cls(program, *places)
        except NoPlacement:
            raise InvalidText() from None
        # The places may be told in any order, but a text has only one.
        if placement.text != text:
            raise InvalidText()
        return placement

    @classmethod
    def apart(cls, program):
        """The arrays up, ascending by their names, each one behind the one before it."""
        places = []
        first = 0
        for name, size in program.arrays:
            places.append((name, first, "up"))
            first += size
        return cls(program, *places)

    def cell(self, element):
        """The cell in which an element lies."""
        name, index = element
        first, layout = self._spots[name]
        return first + offset_of(layout, index)

    def moved(self, *cells):
        """The placement with other first cells, told as pairs; raises NoPlacement() if a cell is below 0."""
        firsts = {name: first for name, first in cells}
        places = [(name, firsts.get(name, first), layout) for name, first, layout in self.places]
        return Placement(self.program, *places)
