"""Progressions: conflicts of which the write, the use and the distance change evenly."""

# A progression of so few members is told member by member, so that no modulus has to go with its step.
FEW = 3


class Progression:
    """Conflicts with the distances start, start + step .., last of them behind the first one.

    Of the write and the use, positions tells those of the first conflict, and changes by how much they change.
    """

    def __init__(self, write, use, positions, changes, start, step, last):
        self.write = write
        self.use = use
        self.positions = positions
        self.changes = changes
        self.start = start
        self.step = step
        self.last = last
        # What has to divide the modulus by which the progression is told.
        self.grain = step if last >= FEW else 1

    def progressions(self):
        """All progressions of which this one consists."""
        return [self]

    def part(self, first, every, last):
        """The progression of every so many members, from one on, last of them behind it."""
        write_at, use_at = self.positions
        write_change, use_change = self.changes
        return Progression(self.write, self.use, (write_at + write_change * first, use_at + use_change * first),
                           (write_change * every, use_change * every), self.start + self.step * first,
                           self.step * every, last)

    def family(self):
        """The family of these conflicts."""
        write_at, use_at = self.positions
        write, use = self.write.event(write_at), self.use.event(use_at)
        if self.last == 0:
            return write, use, 0, 0, 0
        write_change, use_change = self.changes
        a = self.write.number(write_at + write_change) - write[1]
        b = self.use.number(use_at + use_change) - use[1]
        return write, use, a, b, self.last


def ascending(write, use, positions, changes, start, step, last):
    """The progression, the step being of any sign, with its distances ascending; of a step of 0, the first member."""
    if step == 0:
        step, last = 1, 0
    if step > 0:
        return Progression(write, use, positions, changes, start, step, last)
    ends = tuple([at + change * last for at, change in zip(positions, changes)])
    opposite = tuple([-change for change in changes])
    return Progression(write, use, ends, opposite, start + step * last, -step, last)
