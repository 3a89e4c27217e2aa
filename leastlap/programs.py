"""Programs: rows of loops over arrays."""

from leastlap.accesses import all_writes
from leastlap.errors import InvalidText, NoProgram, Outside, Twice, Unwritten
from leastlap.faults import first_outside, first_twice, first_unwritten
from leastlap.forms import are_arrays, are_loops, are_outputs
from leastlap.lines import iteration_at
from leastlap.program_texts import program_text, read_program


def check_form(arrays, loops, outputs, most):
    """Raise NoProgram if the values are not the arrays, loops and outputs of a program with at most so many arrays."""
    if not are_arrays(arrays, most):
        raise NoProgram("arrays")
    names = [name for name, size in arrays]
    if not are_loops(loops, names):
        raise NoProgram("loops")
    if not are_outputs(outputs, names):
        raise NoProgram("outputs")


def check_run(sizes, loops, outputs):
    """Raise the error of what the sequential run must not do."""
    outside = first_outside(sizes, loops)
    if outside is not None:
        place, i = outside
        raise Outside(place, i)
    write = first_twice(loops)
    if write is not None:
        raise Twice(write)
    use = first_unwritten(sizes, loops, outputs)
    if use is not None:
        raise Unwritten(use)


class Program:
    """Arrays, the loops over them, and the arrays that are used at the end."""

    MOST = 6

    def __init__(self, arrays, loops, outputs=()):
        check_form(arrays, loops, outputs, Program.MOST)
        self.arrays = arrays
        self.loops = loops
        self.outputs = outputs
        self._sizes = {name: size for name, size in arrays}
        check_run(self._sizes, loops, outputs)
        self._writes = all_writes(loops)
        written = [name for place, name, line in self._writes]
        self._inputs = tuple([name for name, size in arrays if name not in written])

    def __eq__(self, other):
        return (isinstance(other, Program) and self.arrays == other.arrays and self.loops == other.loops
                and self.outputs == other.outputs)

    def __len__(self):
        return len(self._writes)

    def __contains__(self, x):
        return isinstance(x, str) and x in self._sizes

    @property
    def inputs(self):
        """The names of all inputs, ascending."""
        return self._inputs

    @property
    def text(self):
        """The text of the program."""
        return program_text(self.arrays, self.loops, self.outputs)

    @classmethod
    def read(cls, text):
        """The program with a text; raises InvalidText() for any value that is none."""
        if not isinstance(text, str):
            raise InvalidText()
        arrays, loops, outputs = read_program(text)
        try:
            program = cls(arrays, loops, outputs)
        except (NoProgram, Outside, Twice, Unwritten):
            raise InvalidText() from None
        if program.text != text:
            raise InvalidText()
        return program

    def element(self, place, i):
        """The element that a place writes or reads in iteration i."""
        statement = self.loops[place[0]][1][place[1]]
        name, c, d = statement[:3] if len(place) == 2 else statement[3][place[2]]
        return name, c * i + d

    def write_of(self, element):
        """The write of an element, or None if it is never written."""
        name, index = element
        if name in self._inputs:
            return (name, index) if 0 <= index < self._sizes[name] else None
        for place, written, line in self._writes:
            i = iteration_at(line, index) if written == name else None
            if i is not None:
                return place, i
        return None

    def size_of(self, name):
        """The size of an array."""
        return self._sizes[name]
