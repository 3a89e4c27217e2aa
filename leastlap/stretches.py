"""Stretches: what is good among the distances that are left of two arrays, as few runs with one step."""

from math import gcd

from leastlap.lines import first_from
from leastlap.rows import common_run, place_of


class Stretch:
    """Distances from first to last, that are bad themselves, and the runs (low, high) of good ones between them.

    A run has all distances from low to high that are equal to them modulo the step.
    """

    def __init__(self, first, last, step, runs):
        self.first = first
        self.last = last
        self.step = step
        self.runs = runs


def stretch_of(bad, left):
    """The stretch of all that is left from the first to the last bad distance, or None if no distance is bad."""
    rows = bad_rows(bad, left)
    ends = [end for row in rows if row for end in (row[0][0], row[-1][1])]
    if not ends:
        return None
    first, last = min(ends), max(ends)
    modulus = bad.modulus
    rows = [[] if row is None else row_between(row, first, last, rest, modulus) for rest, row in enumerate(rows)]
    if not any(rows):
        return Stretch(first, last, 1, [])
    step = best_step(rows, modulus)
    return Stretch(first, last, step, runs_by(rows, step, modulus))


def is_bad_throughout(bad, left):
    """Whether no good distance is left."""
    modulus = bad.modulus
    common = gcd(modulus, left.modulus)
    for rest in range(left.residue % common, modulus, common):
        low, high = first_from(left.low, rest, modulus), left.high - (left.high - rest) % modulus
        row = bad.rows[rest]
        at = place_of(row, low)
        if low <= high and not (at < len(row) and row[at][0] <= low and high <= row[at][1]):
            return False
    return True


def bad_rows(bad, left):
    """The runs of bad distances of each row from the least to the greatest one that is left; None if the row is not."""
    common = gcd(bad.modulus, left.modulus)
    found = []
    for rest, row in enumerate(bad.rows):
        if (rest - left.residue) % common == 0:
            runs = [common_run(run, left.low, left.high, rest, bad.modulus) for run in row]
            found.append([run for run in runs if run[0] <= run[1]])
        else:
            found.append(None)
    return found


def row_between(row, low, high, rest, modulus):
    """The runs of all from low to high with a residue that are in no run of a row."""
    end = high - (high - rest) % modulus
    return without([(first_from(low, rest, modulus), end)], row, modulus)


def without(row, others, modulus):
    """The runs of what is in a row, but not in another one of the same residue."""
    found = []
    for low, high in row:
        for begin, end in others:
            if begin <= high and low <= end:
                if low < begin:
                    found.append((low, begin - modulus))
                low = end + modulus
        if low <= high:
            found.append((low, high))
    return found


def ends_by(rows, step, modulus):
    """The runs of all in rows from which one step leads out of them, backwards if the step is above 0."""
    found = []
    for rest, row in enumerate(rows):
        before = [(low + step, high + step) for low, high in rows[(rest - step) % modulus]]
        found.extend(without(row, before, modulus))
    return found


def best_step(rows, modulus):
    """The step, a divisor of the modulus, by which rows have the fewest runs."""
    steps = [step for step in range(1, modulus + 1) if modulus % step == 0]
    return min([(count_of_numbers(ends_by(rows, step, modulus), modulus), step) for step in steps])[1]


def count_of_numbers(runs, modulus):
    """How many numbers are in some runs."""
    return sum([(high - low) // modulus + 1 for low, high in runs])


def runs_by(rows, step, modulus):
    """The runs of rows by a step, ascending by their residues and then by their numbers."""
    starts = numbers_by(ends_by(rows, step, modulus), step, modulus)
    ends = numbers_by(ends_by(rows, -step, modulus), step, modulus)
    return list(zip(starts, ends))


def numbers_by(runs, step, modulus):
    """All numbers of some runs, ascending by their residues and then by themselves."""
    found = sorted([(number % step, number) for low, high in runs for number in range(low, high + 1, modulus)])
    return [number for _, number in found]
