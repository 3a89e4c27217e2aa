"""Rows: a set of distances, told for each residue modulo some number by the runs of all numbers with this residue."""

from math import lcm

from leastlap.lines import first_from


def place_of(row, number):
    """How many runs of a row end ahead of a number."""
    low, high = 0, len(row)
    while low < high:
        middle = (low + high) // 2
        if row[middle][1] < number:
            low = middle + 1
        else:
            high = middle
    return low


def is_in(row, number):
    """Whether a number with the residue of a row is in one of its runs."""
    at = place_of(row, number)
    return at < len(row) and row[at][0] <= number


def common_run(run, low, high, rest, modulus):
    """The least and the greatest number of a run that has a residue and is from low to high, if the former is less."""
    low, high = max(low, run[0]), min(high, run[1])
    return first_from(low, rest, modulus), high - (high - rest) % modulus


def narrowed(row, rest, modulus):
    """The row of the numbers of a row that have a residue modulo a multiple of its modulus."""
    found = []
    for run in row:
        low, high = common_run(run, run[0], run[1], rest, modulus)
        if low <= high:
            if found and low == found[-1][1] + modulus:
                low = found.pop()[0]
            found.append((low, high))
    return found


class Rows:
    """Numbers, by the modulus and for each residue the runs (low, high) that do not touch, ascending."""

    def __init__(self):
        self.modulus = 1
        self.rows = [[]]

    def is_held(self, number):
        """Whether a number is among them."""
        return is_in(self.rows[number % self.modulus], number)

    def first_free(self, start, step):
        """The first one of start, start + step .. that is not held, the step being 1 or -1."""
        found = []
        for at in range(self.modulus):
            number = start + step * at
            row = self.rows[number % self.modulus]
            place = place_of(row, number)
            if place == len(row) or number < row[place][0]:
                found.append(number)
                break
            found.append(row[place][1] + self.modulus if step > 0 else row[place][0] - self.modulus)
        return min(found) if step > 0 else max(found)

    def count_held(self, low, high):
        """How many are held from low to high."""
        found = 0
        for rest, row in enumerate(self.rows):
            for run in row:
                least, most = common_run(run, low, high, rest, self.modulus)
                found += max(0, (most - least) // self.modulus + 1)
        return found

    def fit(self, grain):
        """Have the modulus be a multiple of a number."""
        modulus = lcm(self.modulus, grain)
        if modulus != self.modulus:
            self.rows = [narrowed(self.rows[rest % self.modulus], rest, modulus) for rest in range(modulus)]
            self.modulus = modulus

    def hold(self, start, step, last):
        """Add start, start + step .., last of them behind the first one; the modulus is a multiple of the step."""
        every = self.modulus // step if last > 0 else 1
        for at in range(min(every, last + 1)):
            low = start + step * at
            self.add_run(low, low + self.modulus * ((last - at) // every))

    def add_run(self, low, high):
        """Add a run."""
        row = self.rows[low % self.modulus]
        begin = place_of(row, low - self.modulus)
        end = place_of(row, high + self.modulus)
        if end < len(row) and row[end][0] <= high + self.modulus:
            end += 1
        if begin < end:
            low, high = min(low, row[begin][0]), max(high, row[end - 1][1])
        row[begin:end] = [(low, high)]

    def left_out(self, start, step, last):
        """Of start, start + step .. the first and the last that are not held, as numbers from 0 to last, or None."""
        every = lcm(self.modulus, step) // step if last > 0 else 1
        first, end = last + 1, -1
        for at in range(min(every, last + 1)):
            row = self.rows[(start + step * at) % self.modulus]
            many = (last - at) // every
            low = first_out(row, start + step * at, step * every, many)
            if low <= many:
                first = min(first, at + every * low)
                high = many - first_out_down(row, start + step * (at + every * many), step * every, many)
                end = max(end, at + every * high)
        return (first, end) if first <= last else None


def first_out(row, start, step, last):
    """The first k for which start + step k is in no run of a row, or one greater than last."""
    k = 0
    at = place_of(row, start)
    while k <= last and at < len(row) and row[at][0] <= start + step * k:
        k = (row[at][1] - start) // step + 1
        at = place_of(row, start + step * k)
    return k


def first_out_down(row, start, step, last):
    """The first k for which start - step k is in no run of a row, or one greater than last."""
    k = 0
    at = place_of(row, start)
    while k <= last and at < len(row) and row[at][0] <= start - step * k:
        k = (start - row[at][0]) // step + 1
        at = place_of(row, start - step * k)
    return k


def nearest(low, high, rest, modulus):
    """The number from low to high with a residue that is the first one of 0, 1, -1, 2 ..; low and high have it, too."""
    if low >= 0:
        return low
    if high < 0:
        return high
    return rest - modulus if low <= rest - modulus and modulus - rest < rest else rest


def nearest_unlike(row, other, rest, modulus):
    """The first one of 0, 1, -1, 2 .. that is in only one of two rows of a residue, or None."""
    ends = sorted([end for low, high in row + other for end in (low, high + modulus)])
    found = [nearest(ends[at], ends[at + 1] - modulus, rest, modulus)
             for at in range(0, len(ends), 2) if ends[at] < ends[at + 1]]
    return min(found, key=turn_of, default=None)


def turn_of(number):
    """What is less for a number that comes earlier among 0, 1, -1, 2 .."""
    return abs(number), number < 0


def first_difference(rows, others):
    """The first one of 0, 1, -1, 2 .. that is held by only one of two, or None."""
    modulus = lcm(rows.modulus, others.modulus)
    found = []
    for rest in range(modulus):
        row, other = rows.rows[rest % rows.modulus], others.rows[rest % others.modulus]
        if row or other:
            number = nearest_unlike(narrowed(row, rest, modulus), narrowed(other, rest, modulus), rest, modulus)
            if number is not None:
                found.append(number)
    return min(found, key=turn_of, default=None)
