"""The least memory: the least size of a right placement, with layouts and told first cells."""

from leastlap.errors import Late, NoMemory
from leastlap.problems import Problem
from leastlap.schedules import DIRECTIONS, Schedule
from leastlap.seeking import least_firsts


def least_memory(schedule, layouts, *, told=()):
    """The least size and a right placement of this size; raises NoMemory(answer) if no placement that fits is right."""
    problem = Problem(schedule, layouts, told)
    firsts = least_firsts(problem, problem.cells_of(problem.laid_apart()))
    return problem.cells_of(firsts), problem.placement_of(firsts)


def least_over_directions(program, lanes, layouts, *, told=()):
    """The least size over all directions of loops with these lanes, a schedule and a placement; None if there is none.

    Of several schedules it is the first one, forward being ahead of backward and the first loops compared first.
    """
    best = None
    for directions in all_directions(len(lanes)):
        found = least_with(program, tuple(zip(directions, lanes)), layouts, told, None if best is None else best[0] - 1)
        best = best if found is None else found
    return best


def all_directions(many):
    """All tuples of so many directions, in order."""
    found = [()]
    for _ in range(many):
        found = [row + (direction,) for row in found for direction in DIRECTIONS]
    return found


def least_with(program, walks, layouts, told, most):
    """The least size with the schedule and a placement, if it is at most a number, which may be None, or else None."""
    try:
        schedule = Schedule(program, walks)
        problem = Problem(schedule, layouts, told)
    except (Late, NoMemory):
        return None
    firsts = least_firsts(problem, problem.cells_of(problem.laid_apart()) if most is None else most)
    return None if firsts is None else (problem.cells_of(firsts), schedule, problem.placement_of(firsts))
