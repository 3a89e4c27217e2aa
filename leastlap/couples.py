"""Couples: two arrays with layouts, the conflicts of their elements, and whether these change evenly."""

from leastlap.checks import is_between, is_row, is_whole
from leastlap.layouts import offset_of
from leastlap.running import accessed


class Conflict:
    """A write and a use with the elements that are written and used, and the write of what is used, its own one."""

    def __init__(self, program, write, use):
        self.write = write
        self.use = use
        self.written = accessed(program, write[0], write[1])
        self.used = accessed(program, use[0], use[1])
        self.own = program.write_of(self.used)

    def parties(self):
        """The three of which the numbers change from one conflict to the next one."""
        return self.write, self.use, self.own


def count_of(program, place, kind):
    """How many numbers a place of a write or a use has; None if any value is no such place."""
    if isinstance(place, str):
        names = program.inputs if kind == "write" else program.outputs
        return program.size_of(place) if place in names else None
    parts = 2 if kind == "write" else 3
    if not (is_row(place, parts, parts) and is_between(place[0], 0, len(program.loops) - 1)):
        return None
    count, statements = program.loops[place[0]]
    if not is_between(place[1], 0, len(statements) - 1):
        return None
    if parts == 3 and not is_between(place[2], 0, len(statements[place[1]][3]) - 1):
        return None
    return count


def is_event(program, thing, kind):
    """Whether any value is a write or a use of a program."""
    if not (is_row(thing, 2, 2) and is_whole(thing[1])):
        return False
    count = count_of(program, thing[0], kind)
    return count is not None and 0 <= thing[1] < count


class Couple:
    """A schedule and two of its arrays, the one and the other, with their layouts."""

    def __init__(self, schedule, one, layout, other, other_layout):
        self.schedule = schedule
        self.one = one
        self.other = other
        self.layouts = {one: layout, other: other_layout}

    def conflict(self, write, use):
        """The conflict that any two values are, if they lie in one cell, or None."""
        program = self.schedule.program
        if not (is_event(program, write, "write") and is_event(program, use, "use")):
            return None
        found = Conflict(program, write, use)
        if (found.written[0], found.used[0]) not in ((self.one, self.other), (self.other, self.one)):
            return None
        return found if self.is_between(found) else None

    def is_between(self, conflict):
        """Whether the write is behind that of what is used, and before the use."""
        schedule = self.schedule
        write = ("write", conflict.write)
        return schedule.is_before(("write", conflict.own), write) and schedule.is_before(write, ("use", conflict.use))

    def distance(self, conflict):
        """The distance of the one to the other array with which a conflict lies in one cell."""
        mine, its = conflict.written, conflict.used
        if mine[0] != self.one:
            mine, its = its, mine
        return offset_of(self.layouts[self.other], its[1]) - offset_of(self.layouts[self.one], mine[1])

    def is_even(self, start, end, last):
        """Whether, by what changes per step, there is a conflict in each of so many steps between two conflicts."""
        if start.own[0] != end.own[0] or (end.own[1] - start.own[1]) % last != 0:
            return False
        return self.keeps_lanes(start, end, last) and self.keeps_rings(start, end, last)

    def keeps_lanes(self, start, end, last):
        """Whether numbers that change in one loop do so by whole groups."""
        changes = [(place, (number - before) // last)
                   for (place, before), (_, number) in zip(start.parties(), end.parties()) if number != before]
        loops = [place[0] for place, change in changes if not isinstance(place, str)]
        for place, change in changes:
            if not isinstance(place, str) and loops.count(place[0]) > 1:
                _, lanes = self.schedule.walks[place[0]]
                if change % lanes != 0:
                    return False
        return True

    def keeps_rings(self, start, end, last):
        """Whether indices of an array in a ring change by whole turns."""
        for (name, before), (_, index) in ((start.written, end.written), (start.used, end.used)):
            layout = self.layouts[name]
            if not isinstance(layout, str) and (index - before) // last % layout[1] != 0:
                return False
        return True
