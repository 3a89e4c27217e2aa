"""What each use finds, and the list of all conflicts, from the plain walk; with them the answers of points 8 to 12.

Events are those of walked_events. A place is a pair of a first cell and a layout.
"""


def offset_of(layout, index):
    if layout == "up":
        return index
    return -index if layout == "down" else index % layout[1]


def cell_of(places, element):
    first, layout = places[element[0]]
    return first + offset_of(layout, element[1])


def walked_finds(events, places):
    """All (use, element, found) in order, cell by cell."""
    held, told = {}, []
    for (kind, at), element in events:
        if kind == "write":
            held[cell_of(places, element)] = element
        else:
            told.append((at, element, held[cell_of(places, element)]))
    return told


def walked_judge(events, places):
    for use, element, found in walked_finds(events, places):
        if element != found:
            return "wrong", use, element, found
    return ("right",)


def all_conflicts(events):
    """All pairs of elements x and y with a write of x between the write and a use of y, whatever the cells."""
    writes, told = [], {}
    since = {}
    for (kind, _), element in events:
        if kind == "write":
            since[element] = len(writes)
            writes.append(element)
        else:
            for x in writes[since[element] + 1:]:
                told[x, element] = True
    return list(told)


def is_right_by(conflicts, places):
    return all(cell_of(places, x) != cell_of(places, y) for x, y in conflicts)


def bad_distances(conflicts, one, layout, other, other_layout):
    """All distances of the one to the other with a conflict of an element of the one and one of the other."""
    layouts = {one: layout, other: other_layout}
    found = set()
    for x, y in conflicts:
        if {x[0], y[0]} == {one, other}:
            mine, its = (x, y) if x[0] == one else (y, x)
            found.add(offset_of(layouts[other], its[1]) - offset_of(layouts[one], mine[1]))
    return found


def right_rings(conflicts, name):
    return tuple(m for m in range(1, 9)
                 if not any(x[0] == y[0] == name and x[1] % m == y[1] % m for x, y in conflicts))


def random_layout(rng, rings=0.35):
    return ("ring", rng.randint(1, 8)) if rng.random() < rings else rng.choice(("up", "down"))


def random_places(rng, arrays, spread):
    """A place for each array, as the arguments of a placement, within so many cells or a little more."""
    found = []
    for name, size in arrays:
        layout = random_layout(rng)
        found.append((name, rng.randint(0, spread) + (size - 1 if layout == "down" else 0), layout))
    return found
