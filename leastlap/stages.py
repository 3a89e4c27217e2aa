"""The stages of a schedule: what is written and used in each input, each loop and each output, in their order.

A position tells how many iterations of a loop, or elements of an input or an output, come ahead of one. By positions
every stage goes forward.
"""

from leastlap.accesses import all_reads, all_writes
from leastlap.lateness import place_moment, position_of, walked

FORWARD = ("forward", 1)


class Access:
    """What writes to an array, or reads from it, in one stage, with the line of its indices by positions."""

    def __init__(self, place, name, line, walk, spot):
        direction, lanes = walk
        self.place = place
        self.name = name
        self.line = walked(line, direction)
        self.direction = direction
        self.lanes = lanes
        self.stage = spot[0]
        self.statement = spot[1]
        self._spot = spot

    def number(self, position):
        """The iteration or the index in a position."""
        return position_of(position, self.line[2], self.direction)

    def event(self, position):
        """The write or the use in a position."""
        return self.place, self.number(position)

    def moment(self, position):
        """A tuple for the write or the use in a position that is less than that of each later one."""
        return place_moment(self._spot, position, self.lanes)

    def index_at(self, position):
        """The index of the element in a position."""
        c, d, _ = self.line
        return c * position + d


def loop_accesses(rows, walks):
    """Those of the loops, told as (place, name, line)."""
    return [Access(place, name, line, walks[place[0]], place) for place, name, line in rows]


def stage_writes(schedule):
    """All that write: the inputs, and the statements."""
    program = schedule.program
    ahead = len(program.inputs)
    found = []
    for at, name in enumerate(program.inputs):
        found.append(Access(name, name, (1, 0, program.size_of(name)), FORWARD, (at - ahead, 0)))
    return found + loop_accesses(all_writes(program.loops), schedule.walks)


def stage_uses(schedule):
    """All that use: the reads of the statements, and the outputs."""
    program = schedule.program
    found = loop_accesses(all_reads(program.loops), schedule.walks)
    for at, name in enumerate(program.outputs):
        spot = (len(program.loops) + at, 0, 0)
        found.append(Access(name, name, (1, 0, program.size_of(name)), FORWARD, spot))
    return found


def accesses_to(accesses, name):
    """Those of an array."""
    return [access for access in accesses if access.name == name]
