"""The plain walk through all iterations of a short program, as the document tells it, to hold the library against.

Programs are given as their parts here, since one with a fault can't be made.
"""


def places_of(statement, loop, at):
    """The places of a statement with what they access, the written one first."""
    name, c, d, reads = statement
    yield (loop, at), name, c, d
    for spot, (read_name, read_c, read_d) in enumerate(reads):
        yield (loop, at, spot), read_name, read_c, read_d


def written_arrays(loops):
    return {statement[0] for _, statements in loops for statement in statements}


def walked_outside(arrays, loops):
    sizes = dict(arrays)
    for loop, (count, statements) in enumerate(loops):
        for at, statement in enumerate(statements):
            for place, name, c, d in places_of(statement, loop, at):
                for i in range(count):
                    if not 0 <= c * i + d < sizes[name]:
                        return place, i
    return None


def walked_run(loops):
    """All writes and uses of the loops in the sequential run, as (kind, (place, i), element)."""
    for loop, (count, statements) in enumerate(loops):
        for i in range(count):
            for at, statement in enumerate(statements):
                (place, name, c, d), *reads = places_of(statement, loop, at)
                for read_place, read_name, read_c, read_d in reads:
                    yield "use", (read_place, i), (read_name, read_c * i + read_d)
                yield "write", (place, i), (name, c * i + d)


def walked_twice(loops):
    seen = set()
    for kind, at, element in walked_run(loops):
        if kind == "write":
            if element in seen:
                return at
            seen.add(element)
    return None


def walked_unwritten(arrays, loops, outputs):
    inputs = {name for name, _ in arrays} - written_arrays(loops)
    seen = set()
    for kind, at, element in walked_run(loops):
        if kind == "write":
            seen.add(element)
        elif element[0] not in inputs and element not in seen:
            return at
    sizes = dict(arrays)
    for name in outputs:
        for index in range(sizes[name]):
            if name not in inputs and (name, index) not in seen:
                return name, index
    return None


def walked_fault(arrays, loops, outputs):
    """The name and the arguments of the error of point 5, or None."""
    outside = walked_outside(arrays, loops)
    if outside is not None:
        return ("Outside",) + outside
    write = walked_twice(loops)
    if write is not None:
        return "Twice", write
    use = walked_unwritten(arrays, loops, outputs)
    if use is not None:
        return "Unwritten", use
    return None


def groups_of(count, direction, lanes):
    iterations = list(range(count))
    if direction == "backward":
        iterations.reverse()
    while iterations:
        yield iterations[:lanes]
        iterations = iterations[lanes:]


def walked_events(arrays, loops, outputs, walks):
    """All events in the order of point 6, each with its element."""
    sizes = dict(arrays)
    found = []
    for name in sorted(set(sizes) - written_arrays(loops)):
        found += [(("write", (name, index)), (name, index)) for index in range(sizes[name])]
    for loop, (count, statements) in enumerate(loops):
        for group in groups_of(count, *walks[loop]):
            for at, (name, c, d, reads) in enumerate(statements):
                for i in group:
                    for spot, (read_name, read_c, read_d) in enumerate(reads):
                        found.append((("use", ((loop, at, spot), i)), (read_name, read_c * i + read_d)))
                for i in group:
                    found.append((("write", ((loop, at), i)), (name, c * i + d)))
    for name in outputs:
        found += [(("use", (name, index)), (name, index)) for index in range(sizes[name])]
    return found


def walked_late(events):
    """The first use, in the order of the schedule, that comes before the write of its element, or None."""
    seen = set()
    for (kind, at), element in events:
        if kind == "write":
            seen.add(element)
        elif element not in seen:
            return at
    return None
