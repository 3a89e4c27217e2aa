"""What a single write or use of a program of any length is, by solving for its element alone.

With it, what the library tells of long programs is held at many iterations: near the ends, near the iteration that it
tells, and near those in which two places meet.
"""

from tests.walking import places_of, written_arrays


def all_places(loops):
    """Each place with its loop's count and what it accesses."""
    for loop, (count, statements) in enumerate(loops):
        for at, statement in enumerate(statements):
            for place, name, c, d in places_of(statement, loop, at):
                yield place, count, name, c, d


def writes_of(loops, element):
    """All writes of an element."""
    name, index = element
    for place, count, other, c, d in all_places(loops):
        if len(place) == 2 and other == name:
            if c == 0 and index == d:
                yield place, 0
            elif c != 0 and (index - d) % c == 0 and 0 <= (index - d) // c < count:
                yield place, (index - d) // c


def run_moment(place, i):
    return place[0], i, place[1], len(place) == 2, place[2:]


def element_of(loops, place, i):
    statement = loops[place[0]][1][place[1]]
    name, c, d = statement[:3] if len(place) == 2 else statement[3][place[2]]
    return name, c * i + d


def is_outside(arrays, loops, place, i):
    name, index = element_of(loops, place, i)
    return not 0 <= index < dict(arrays)[name]


def is_twice(loops, place, i):
    writes = writes_of(loops, element_of(loops, place, i))
    return any(run_moment(*write) < run_moment(place, i) for write in writes)


def is_unwritten(loops, place, i):
    element = element_of(loops, place, i)
    if element[0] not in written_arrays(loops):
        return False
    return not any(run_moment(*write) < run_moment(place, i) for write in writes_of(loops, element))


def is_left_out(loops, name, index):
    return name in written_arrays(loops) and not list(writes_of(loops, (name, index)))


def schedule_moment(loops, walks, place, i):
    """A tuple for what a place does in iteration i that is in the order of the schedule."""
    direction, lanes = walks[place[0]]
    turn = i if direction == "forward" else loops[place[0]][0] - 1 - i
    return place[0], turn // lanes, place[1], len(place) == 2, turn, place[2:]


def is_late(loops, walks, place, i):
    writes = writes_of(loops, element_of(loops, place, i))
    moment = schedule_moment(loops, walks, place, i)
    return any(moment < schedule_moment(loops, walks, *write) for write in writes)


def iterations_near(rng, loops, place, more=()):
    """Iterations of a place in which something may begin or end."""
    found = {}
    rows = {row[0]: row[1:] for row in all_places(loops)}
    count, name, c, d = rows[place]
    marks = [0, count - 1, count // 2, rng.randrange(count), rng.randrange(count)] + list(more)
    for many, other, k, e in rows.values():
        if other == name:
            marks += [(e - d) // c, (k * (many - 1) + e - d) // c] if c else []
            marks += [(e - d) // (c - k), (e - d) // (c + k)] if abs(c) != abs(k) else []
    for mark in marks:
        for i in range(mark - 3, mark + 4):
            if 0 <= i < count:
                found[i] = True
    return sorted(found)
