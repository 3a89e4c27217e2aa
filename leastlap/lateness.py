"""The order of what is written and used in a schedule, and the first use that it has ahead of the write."""

from leastlap.accesses import all_reads, all_writes
from leastlap.lines import first_early, turned


def position_of(i, count, direction):
    """How many iterations of a loop with this count are ahead of iteration i; of a position, which iteration it is."""
    return i if direction == "forward" else count - 1 - i


def place_moment(place, position, lanes):
    """The moment of what a place does in a position of its loop: moments are in the order of the schedule."""
    group = position // lanes
    if len(place) == 2:
        return place[0], group, place[1], 1, position, 0
    return place[0], group, place[1], 0, position, place[2]


def first_late(loops, walks):
    """The first use, in the order of the schedule, that comes before the write of its element, or None."""
    writes = all_writes(loops)
    found = []
    for place, name, line in all_reads(loops):
        direction, lanes = walks[place[0]]
        for other, written, other_line in writes:
            if written == name and other[0] == place[0]:
                # In one group, only the statements ahead of the one that reads have written before.
                strict = other[1] < place[1]
                position = first_early(walked(line, direction), walked(other_line, direction), lanes, strict)
                if position is not None:
                    found.append((place_moment(place, position, lanes), place))
    if not found:
        return None
    moment, place = min(found)
    return place, position_of(moment[4], loops[place[0]][0], walks[place[0]][0])


def walked(line, direction):
    """The line by positions instead of iterations."""
    return line if direction == "forward" else turned(line)
