"""What the places of a program write and read, as (place, name, line)."""


def all_writes(loops):
    """What each statement writes, in order."""
    found = []
    for number, (count, statements) in enumerate(loops):
        for at, (name, c, d, _) in enumerate(statements):
            # A c of 0 stands only where the count is 1, where each other c does as well.
            found.append(((number, at), name, (c or 1, d, count)))
    return found


def all_reads(loops):
    """What each statement reads, in order."""
    found = []
    for number, (count, statements) in enumerate(loops):
        for at, statement in enumerate(statements):
            for spot, (name, c, d) in enumerate(statement[3]):
                found.append(((number, at, spot), name, (c, d, count)))
    return found


def all_accesses(loops):
    """All of both in order, what a statement writes ahead of what it reads."""
    return sorted(all_writes(loops) + all_reads(loops))
