"""Whether every use finds its own element with a placement, at all lengths."""

from leastlap.clashes import first_wrong, last_element
from leastlap.stages import stage_uses, stage_writes


def judge(schedule, placement):
    """Either ("right",), or ("wrong", use, element, found) with the first use that finds another element."""
    writes = stage_writes(schedule)
    wrong = first_wrong(placement, stage_uses(schedule), writes)
    if wrong is None:
        return ("right",)
    _, use, position = wrong
    found = last_element(placement, writes, use, position)
    return "wrong", use.event(position), (use.name, use.index_at(position)), found


def is_right(schedule, placement):
    """Whether every use finds its own element."""
    return judge(schedule, placement) == ("right",)
