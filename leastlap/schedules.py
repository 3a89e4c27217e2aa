"""Schedules: in which direction, and how many iterations at a time, the loops of a program are executed."""

from leastlap.checks import is_row, is_whole
from leastlap.errors import InvalidText, Late, NoSchedule
from leastlap.lateness import first_late, place_moment, position_of
from leastlap.numerals import number_text, read_number

DIRECTIONS = ("forward", "backward")
LANES = (1, 2, 4)


def is_walk(thing):
    """Whether a value is a direction with a number of lanes."""
    if not is_row(thing, 2, 2):
        return False
    direction, lanes = thing
    return direction in DIRECTIONS and is_whole(lanes) and lanes in LANES


def read_walk(line):
    """The walk that a line tells."""
    direction, _, lanes = line.partition(" ")
    return direction, read_number(lanes)


def group_of(start, count, direction, lanes):
    """The iterations of the group that begins in a position, in order."""
    return [position_of(at, count, direction) for at in range(start, min(start + lanes, count))]


def loop_events(number, loop, walk):
    """Yield all writes and uses of a loop in order."""
    count, statements = loop
    direction, lanes = walk
    for start in range(0, count, lanes):
        group = group_of(start, count, direction, lanes)
        for at, statement in enumerate(statements):
            for i in group:
                for spot in range(len(statement[3])):
                    yield ("use", ((number, at, spot), i))
            for i in group:
                yield ("write", ((number, at), i))


class Schedule:
    """A program, with a direction and a number of lanes for each loop."""

    def __init__(self, program, walks):
        if not is_row(walks, len(program.loops), len(program.loops)):
            raise NoSchedule()
        if not all([is_walk(walk) for walk in walks]):
            raise NoSchedule()
        use = first_late(program.loops, walks)
        if use is not None:
            raise Late(use)
        self.program = program
        self.walks = walks

    def __eq__(self, other):
        return isinstance(other, Schedule) and self.program == other.program and self.walks == other.walks

    @property
    def text(self):
        """The text of the schedule."""
        return "\n".join([f"{direction} {number_text(lanes)}" for direction, lanes in self.walks])

    @classmethod
    def plain(cls, program):
        """The sequential run."""
        return cls(program, (("forward", 1),) * len(program.loops))

    @classmethod
    def read(cls, program, text):
        """The schedule with a text; raises InvalidText() for any value that is none, then Late(use)."""
        if not isinstance(text, str):
            raise InvalidText()
        walks = tuple([read_walk(line) for line in text.split("\n")])
        try:
            return cls(program, walks)
        except NoSchedule:
            raise InvalidText() from None

    def with_walk(self, loop, direction, lanes):
        """The schedule with another walk of a loop; raises Late(use)."""
        walks = list(self.walks)
        walks[loop] = (direction, lanes)
        return Schedule(self.program, tuple(walks))

    def events(self):
        """Yield all writes and uses in order."""
        for name in self.program.inputs:
            for index in range(self.program.size_of(name)):
                yield ("write", (name, index))
        for number, walk in enumerate(self.walks):
            loop = self.program.loops[number]
            yield from loop_events(number, loop, walk)
        for name in self.program.outputs:
            for index in range(self.program.size_of(name)):
                yield ("use", (name, index))

    def is_before(self, event, other):
        """Whether an event is before another one."""
        return self.moment(event) < self.moment(other)

    def moment(self, event):
        """A tuple for an event that is less than that of each later one."""
        kind, (place, number) = event
        if isinstance(place, str):
            edge = -1 if kind == "write" else len(self.walks)
            return edge, place, number
        direction, lanes = self.walks[place[0]]
        count = self.program.loops[place[0]][0]
        return place_moment(place, position_of(number, count, direction), lanes)
