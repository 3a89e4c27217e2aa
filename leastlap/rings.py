"""In which rings an array is right by itself, and which lanes a loop may have with a placement."""

from leastlap.clashes import first_clash
from leastlap.errors import Late
from leastlap.judging import is_right
from leastlap.layouts import GREATEST_RING
from leastlap.schedules import LANES
from leastlap.stages import accesses_to, stage_uses, stage_writes
from leastlap.windows import windows_of


def is_right_alone(windows, m):
    """Whether no two elements of an array have a conflict in a ring of m, by all windows of the array with itself."""
    place = 0, ("ring", m)
    for window in windows:
        if first_clash(window, place, place) is not None:
            return False
    return True


def rings(schedule, name):
    """All m from 1 to 8 with which an array is right by itself in a ring of m, ascending."""
    writes = accesses_to(stage_writes(schedule), name)
    windows = []
    for use in accesses_to(stage_uses(schedule), name):
        windows.extend(windows_of(use, writes, writes))
    return tuple([m for m in range(1, GREATEST_RING + 1) if is_right_alone(windows, m)])


def is_right_with(schedule, placement, loop, count):
    """Whether a placement is right if a loop has so many lanes, and the schedule is not late then."""
    try:
        changed = schedule.with_walk(loop, schedule.walks[loop][0], count)
    except Late:
        return False
    return is_right(changed, placement)


def lanes(schedule, placement, loop):
    """The lanes that a loop may have with a placement, ascending."""
    return tuple([count for count in LANES if is_right_with(schedule, placement, loop, count)])
