"""What a single write or use of a program of any length is, by solving for its element alone.

With it, what the library tells of long programs is held at many iterations: near the ends, near the iteration that it
tells, and near those in which two places meet.
"""

from tests.conflicts import cell_of, offset_of
from tests.walking import places_of, written_arrays


def all_places(loops):
    """Each place with its loop's count and what it accesses."""
    for loop, (count, statements) in enumerate(loops):
        for at, statement in enumerate(statements):
            for place, name, c, d in places_of(statement, loop, at):
                yield place, count, name, c, d


def writes_of(loops, element):
    """All writes of an element."""
    name, index = element
    for place, count, other, c, d in all_places(loops):
        if len(place) == 2 and other == name:
            if c == 0 and index == d:
                yield place, 0
            elif c != 0 and (index - d) % c == 0 and 0 <= (index - d) // c < count:
                yield place, (index - d) // c


def run_moment(place, i):
    return place[0], i, place[1], len(place) == 2, place[2:]


def element_of(loops, place, i):
    statement = loops[place[0]][1][place[1]]
    name, c, d = statement[:3] if len(place) == 2 else statement[3][place[2]]
    return name, c * i + d


def is_outside(arrays, loops, place, i):
    name, index = element_of(loops, place, i)
    return not 0 <= index < dict(arrays)[name]


def is_twice(loops, place, i):
    writes = writes_of(loops, element_of(loops, place, i))
    return any(run_moment(*write) < run_moment(place, i) for write in writes)


def is_unwritten(loops, place, i):
    element = element_of(loops, place, i)
    if element[0] not in written_arrays(loops):
        return False
    return not any(run_moment(*write) < run_moment(place, i) for write in writes_of(loops, element))


def is_left_out(loops, name, index):
    return name in written_arrays(loops) and not list(writes_of(loops, (name, index)))


def schedule_moment(loops, walks, place, i):
    """A tuple for what a place does in iteration i that is in the order of the schedule."""
    direction, lanes = walks[place[0]]
    turn = i if direction == "forward" else loops[place[0]][0] - 1 - i
    return place[0], turn // lanes, place[1], len(place) == 2, turn, place[2:]


def is_late(loops, walks, place, i):
    writes = writes_of(loops, element_of(loops, place, i))
    moment = schedule_moment(loops, walks, place, i)
    return any(moment < schedule_moment(loops, walks, *write) for write in writes)


def iterations_near(rng, loops, place, more=()):
    """Iterations of a place in which something may begin or end."""
    found = {}
    rows = {row[0]: row[1:] for row in all_places(loops)}
    count, name, c, d = rows[place]
    marks = [0, count - 1, count // 2, rng.randrange(count), rng.randrange(count)] + list(more)
    for many, other, k, e in rows.values():
        if other == name:
            marks += [(e - d) // c, (k * (many - 1) + e - d) // c] if c else []
            marks += [(e - d) // (c - k), (e - d) // (c + k)] if abs(c) != abs(k) else []
    for mark in marks:
        for i in range(mark - 3, mark + 4):
            if 0 <= i < count:
                found[i] = True
    return sorted(found)


def event_moment(loops, walks, kind, event):
    """As schedule_moment, also for writes of inputs and uses of outputs."""
    place, number = event
    if isinstance(place, str):
        return (-1 if kind == "write" else len(loops)), place, number
    return schedule_moment(loops, walks, place, number)


def last_turn_ahead(loops, walks, place, moment):
    """How many iterations of the loop of a place that writes, less one, have done so before a moment."""
    count, direction = loops[place[0]][0], walks[place[0]][0]
    low, high = -1, count - 1
    while low < high:
        turn = (low + high + 1) // 2
        if schedule_moment(loops, walks, place, turn if direction == "forward" else count - 1 - turn) < moment:
            low = turn
        else:
            high = turn - 1
    return low


def ring_writes_ahead(arrays, loops, walks, name, m, rest, moment):
    """For each place that writes an array, its last write before a moment of an element with a residue modulo m."""
    if name not in written_arrays(loops):
        size = dict(arrays)[name]
        for index in range(size - 1, max(-1, size - 1 - m), -1):
            if index % m == rest and (-1, name, index) < moment:
                yield name, index
        return
    for place, count, other, c, d in all_places(loops):
        if len(place) == 2 and other == name:
            last = last_turn_ahead(loops, walks, place, moment)
            for turn in range(last, max(-1, last - m), -1):
                i = turn if walks[place[0]][0] == "forward" else count - 1 - turn
                if (c * i + d) % m == rest:
                    yield place, i
                    break


def found_by_hand(parts, walks, places, place, i):
    """(element, found) of a use: each write to the cell is found by solving for its number, and the last one taken."""
    arrays, loops, _ = parts
    element = (place, i) if isinstance(place, str) else element_of(loops, place, i)
    cell, moment = cell_of(places, element), event_moment(loops, walks, "use", (place, i))
    found = []
    for name, size in arrays:
        first, layout = places[name]
        if not isinstance(layout, str):
            if 0 <= cell - first < layout[1]:
                found += ring_writes_ahead(arrays, loops, walks, name, layout[1], cell - first, moment)
            continue
        index = (cell - first) * offset_of(layout, 1)
        if 0 <= index < size:
            own = [(name, index)] if name not in written_arrays(loops) else list(writes_of(loops, (name, index)))
            found += [write for write in own if event_moment(loops, walks, "write", write) < moment]
    last = max(found, key=lambda write: event_moment(loops, walks, "write", write))
    return element, last if isinstance(last[0], str) else element_of(loops, *last)


def uses_of(loops, outputs, arrays):
    """Each place that uses, with its count, the array and c and d."""
    sizes = dict(arrays)
    for place, count, name, c, d in all_places(loops):
        if len(place) == 3:
            yield place, count, name, c, d
    for name in outputs:
        yield name, sizes[name], name, 1, 0


def numbers_near(rng, parts, places, use):
    """Iterations or indices of a use at which its cell may begin or end to be written, or to be written before it."""
    arrays, loops, _ = parts
    place, count, name, c, d = use
    sign = offset_of(places[name][1], 1) if isinstance(places[name][1], str) else 0
    slope, base = c * sign, places[name][0] + d * sign
    marks = [0, count - 1, count // 2, rng.randrange(count)]
    writers = [(k, e, many, other) for spot, many, other, k, e in all_places(loops) if len(spot) == 2]
    writers += [(1, 0, size, other) for other, size in arrays if other not in written_arrays(loops)]
    for k, e, many, other in writers:
        if slope != 0 and isinstance(places[other][1], str):
            first, step = places[other][0], offset_of(places[other][1], 1)
            for at in (0, many - 1):
                marks.append((first + step * (k * at + e) - base) // slope)
            if slope != step * k:
                marks.append((first + step * e - base) // (slope - step * k))
            if slope != -step * k:
                marks.append((first + step * (e + k * (many - 1)) - base) // (slope + step * k))
    return sorted({i for mark in marks for i in range(mark - 3, mark + 4) if 0 <= i < count})
