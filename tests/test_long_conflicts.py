"""Judging, distances, rings and lanes at the greatest lengths: held against what is reckoned by hand, and against each other.

By hand, what a use finds is told by one linear equation for each place that writes (tests/spots.py).
"""

import random
import time
import unittest
from collections import Counter

from leastlap.distances import Distances
from leastlap.judging import is_right, judge
from leastlap.placements import Placement
from leastlap.rings import lanes, rings

from tests.conflicts import random_layout, random_places
from tests.covers import CoverReader
from tests.longs import prompt_loops, placed, random_long
from tests.samples import MOST, schedule_of
from tests.spots import event_moment, found_by_hand, numbers_near, uses_of

HALF = MOST // 2
RIGHT = ("right",)
ALL = (1, 2, 3, 4, 5, 6, 7, 8)
# A call is to take well under a second.
LIMIT = 0.7


class Case(unittest.TestCase):
    def timed(self, function, *arguments):
        """What a call returns, which it has to do in time."""
        start = time.perf_counter()
        told = function(*arguments)
        self.assertLess(time.perf_counter() - start, LIMIT, (function, arguments))
        return told


def row_schedule(many, walks=(("forward", 1), ("forward", 1))):
    """The program of the document's examples, of any length."""
    taps = ("B", 1, 0, (("A", 1, 0), ("A", 1, 1), ("A", 1, 2)))
    twice = (("C", 2, 0, (("B", 1, 0),)), ("C", 2, 1, (("B", 1, 0),)))
    return schedule_of((("A", many + 2), ("B", many), ("C", 2 * many)), ((many, (taps,)), (many, twice)), ("C",), walks)


class RowTest(Case):
    """The examples of the document, at the lengths of the document and at the greatest ones."""

    def test_judge(self):
        for many in (10, 10 ** 3 + 2, HALF, HALF - 2):
            plain, back = row_schedule(many), row_schedule(many, (("backward", 1), ("forward", 1)))
            tight = Placement(plain.program, ("C", 0, "up"), ("A", many - 2, "up"), ("B", many, "up"))
            self.assertEqual(self.timed(judge, plain, tight), ("wrong", ((0, 0, 1), 1), ("A", 2), ("B", 0)))
            self.assertEqual(self.timed(judge, back, tight), RIGHT)
            self.assertEqual(self.timed(judge, back, tight.moved(("B", many - 1))),
                             ("wrong", ((0, 0, 2), many - 2), ("A", many), ("B", many - 1)))
            self.assertEqual(self.timed(is_right, back, tight), True)
            four = row_schedule(many, (("forward", 1), ("forward", 4)))
            first = many - 6 if many % 4 == 2 else many - 4
            self.assertEqual(self.timed(judge, four, tight.moved(("A", 3 * many))),
                             ("wrong", ((1, 1, 0), first), ("B", first), ("C", many + first)))

    def test_distances(self):
        for many in (10, 10 ** 3 + 1, HALF):
            plain, back = row_schedule(many), row_schedule(many, (("backward", 1), ("forward", 1)))
            near, far = self.timed(Distances, plain, "B", "up", "A", "up"), self.timed(Distances, plain, "B", "up", "C", "up")
            self.assertEqual([near.least_bad, near.greatest_bad, far.least_bad, far.greatest_bad],
                             [1, many + 1, 1 - many, many - 1])
            self.assertEqual([near.count_bad(-many, many), far.count_bad(-9 * many, 9 * many)], [many, 2 * many - 1])
            self.assertEqual([near.next_good(1), near.next_good(many, step=-1), far.next_good(0), far.next_good(0, step=-1)],
                             [many + 2, 0, many, -many])
            other = Distances(back, "B", "up", "A", "up")
            self.assertEqual([other.least_bad, other.greatest_bad, other.count_bad(-2 * many, 2 * many)],
                             [1 - many, 1, many + 1])
            self.assertEqual([near.first_unlike(other), other.first_unlike(near)], [(0, False), (0, True)])
            self.assertEqual(far.first_unlike(Distances(row_schedule(many - 1), "B", "up", "C", "up")), (many - 1, True))

    def test_lanes_and_rings(self):
        back = row_schedule(HALF, (("backward", 1), ("forward", 1)))
        tight = Placement(back.program, ("C", 0, "up"), ("A", HALF - 2, "up"), ("B", HALF, "up"))
        self.assertEqual([self.timed(lanes, back, tight, 0), self.timed(lanes, back, tight, 1)], [(1, 2, 4), (1,)])
        self.assertEqual([self.timed(rings, back, name) for name in "ABC"], [(), (), ()])


class EquationsTest(Case):
    def test_gaps_all_along(self):
        """Of the document's T and X, bad are 0, 2, 4 .. up to twice the number of iterations, less 2."""
        for many in (5, 77, MOST // 3 - 1):
            first = (1, (("T", 1, 0, ()), ("X", 1, 0, ())))
            then = (many, (("Z", 1, 0, (("T", 1, 0), ("X", 3, 0))), ("T", 1, 1, (("A", 1, 0),)), ("X", 3, 3, (("A", 1, 0),))))
            arrays = (("A", many), ("T", many + 1), ("X", 3 * many + 1), ("Z", many))
            schedule = schedule_of(arrays, (first, then), ("Z",))
            gaps = self.timed(Distances, schedule, "T", "up", "X", "up")
            last = 2 * many - 2
            self.assertEqual([gaps.least_bad, gaps.greatest_bad, gaps.count_bad(-many, 3 * many)], [0, last, many])
            for k in (0, 1, 2, 3, many, last - 3, last - 2, last - 1, last, last + 1, last + 2, -1, -2):
                self.assertIs(gaps.is_good(k), not (0 <= k <= last and k % 2 == 0))
            self.assertEqual([gaps.next_good(k) for k in (0, last - 2, last)], [1, last - 1, last + 1])
            self.assertEqual([gaps.next_good(k, step=-1) for k in (0, 2, last)], [-1, 1, last - 1])
            self.assertEqual(self.timed(rings, schedule, "T"), ALL)
            self.assertEqual(self.timed(rings, schedule, "X"), ALL)
            CoverReader(schedule, "T", "up", "X", "up").parted(gaps, -5, last + 5)

    def test_gaps_at_both_ends(self):
        """Bad is 2 j - 3 i, for all j and i: there are gaps next to the ends, and none between."""
        many = MOST // 3
        loops = ((many, (("A", 2, 0, ()),)), (many, (("B", 3, 0, ()),)), (many, (("C", 1, 0, (("A", 2, 0),)),)))
        schedule = schedule_of((("A", 2 * many), ("B", 3 * many), ("C", many)), loops)
        told = self.timed(Distances, schedule, "B", "up", "A", "up")
        low, high = -3 * (many - 1), 2 * (many - 1)
        self.assertEqual([told.least_bad, told.greatest_bad], [low, high])
        self.assertEqual([k for k in range(low - 2, low + 9) if told.is_good(k)], [low - 2, low - 1, low + 1])
        self.assertEqual([k for k in range(high - 9, high + 3) if told.is_good(k)], [high - 1, high + 1, high + 2])
        self.assertEqual(told.count_bad(-MOST * 5, MOST * 5), high - low - 1)
        self.assertEqual([told.next_good(0), told.next_good(0, step=-1)], [high - 1, low + 1])
        CoverReader(schedule, "B", "up", "A", "up").parted(told, -10 ** 30, 10 ** 30)

    def test_what_is_read_backwards(self):
        """B[i] is made from A[n - 1 - i]: B[i] spoils A[a] for a < n - 1 - i, so that bad is up to n - 2 - 2 i."""
        for many in (9, 10, MOST, MOST - 1):
            schedule = schedule_of((("A", many), ("B", many)), ((many, (("B", 1, 0, (("A", -1, many - 1),)),)),), ("B",))
            up = self.timed(Distances, schedule, "B", "up", "A", "up")
            self.assertEqual([up.least_bad, up.greatest_bad], [2 - many, many - 2])
            self.assertEqual(up.count_bad(-many, many), 2 * many - 3)
            down = self.timed(Distances, schedule, "B", "down", "A", "up")
            # B[i] down lies i below its first cell, so that the distance is a + i < n - 1.
            self.assertEqual([down.least_bad, down.greatest_bad, down.count_bad(-many, many)], [0, many - 2, many - 1])

    def test_rings_at_all_lengths(self):
        for lag in range(1, 10):
            for c, count in ((1, MOST // 2), (-1, MOST - 20), (2, MOST // 2 - 9), (-3, MOST // 3 - 9)):
                low = -c * (count + lag - 1) if c < 0 else 0
                loops = ((lag, (("X", c, low, ()),)), (count, (("X", c, low + c * lag, (("X", c, low),)),)))
                schedule = schedule_of((("X", MOST),), loops)
                want = tuple(m for m in ALL if all(abs(c) * apart % m != 0 for apart in range(1, lag)))
                self.assertEqual(self.timed(rings, schedule, "X"), want, (lag, c))
                self.assertEqual(self.timed(lanes, schedule, Placement(schedule.program, ("X", 0, "up")), 1),
                                 tuple(k for k in (1, 2, 4) if k <= lag))
                self.assertEqual(self.timed(lanes, schedule, Placement(schedule.program, ("X", 7, ("ring", 8))), 1),
                                 tuple(k for k in (1, 2, 4) if k <= lag and 8 in want))

    def test_only_the_last_use_is_wrong(self):
        """B reaches A only with its last element, or with its last group."""
        many = MOST
        schedule = schedule_of((("A", many), ("B", many)), ((many, (("B", 1, 0, (("A", 1, 0),)),)),), ("A", "B"))
        self.assertEqual(self.timed(judge, schedule, Placement(schedule.program, ("A", many - 1, "up"), ("B", 0, "up"))),
                         ("wrong", ("A", 0), ("A", 0), ("B", many - 1)))
        self.assertEqual(self.timed(judge, schedule, Placement(schedule.program, ("A", many, "up"), ("B", 0, "up"))), RIGHT)
        alone = schedule_of((("A", many), ("B", many)), ((many, (("B", 1, 0, (("A", -1, many - 1),)),)),), ("B",))
        self.assertEqual(self.timed(judge, alone, Placement(alone.program, ("A", many, "down"), ("B", 1, "up"))), RIGHT)
        for first in (1, 2, many // 2, many - 1):
            # A[n - 1 - i], which is read in iteration i, lies in cell i.
            self.assertEqual(self.timed(judge, alone, Placement(alone.program, ("A", many - 1, "down"), ("B", first, "up"))),
                             ("wrong", ((0, 0, 0), first), ("A", many - 1 - first), ("B", 0)))

    def test_a_third_element(self):
        """What B spoils is written over by C, too, before it is used."""
        many = MOST // 4
        loops = ((many, (("B", 2, 0, ()),)), (many, (("C", -1, many - 1, ()),)), (many, (("D", 1, 0, (("A", 1, 0),)),)))
        schedule = schedule_of((("A", many), ("B", 2 * many), ("C", many), ("D", many)), loops)
        place = lambda b, c: Placement(schedule.program, ("A", 0, "up"), ("B", b, "up"), ("C", c, "up"), ("D", MOST * 3, "up"))
        self.assertEqual(self.timed(judge, schedule, place(many - 1, many - 1)),
                         ("wrong", ((2, 0, 0), many - 1), ("A", many - 1), ("C", 0)))
        self.assertEqual(self.timed(judge, schedule, place(many - 5, many - 1)),
                         ("wrong", ((2, 0, 0), many - 5), ("A", many - 5), ("B", 0)))
        self.assertEqual(self.timed(judge, schedule, place(many - 5, 3)), ("wrong", ((2, 0, 0), 3), ("A", 3), ("C", 0)))
        self.assertEqual(self.timed(judge, schedule, place(many, many)), RIGHT)


class RandomTest(Case):
    COUNTS = (4 * 10 ** 16, 3 * 10 ** 16 + 7, 10 ** 15 - 1)

    def hold_judge(self, rng, schedule, places):
        """Hold what judge tells against what is found by hand, at the uses where something may begin or end."""
        program = schedule.program
        parts = program.arrays, program.loops, program.outputs
        spots = {name: (first, layout) for name, first, layout in places}
        told = self.timed(judge, schedule, Placement(program, *places))
        first = None
        if told != RIGHT:
            self.assertEqual(found_by_hand(parts, schedule.walks, spots, *told[1]), told[2:])
            self.assertNotEqual(*told[2:])
            first = event_moment(program.loops, schedule.walks, "use", told[1])
        for use in uses_of(program.loops, program.outputs, program.arrays):
            numbers = numbers_near(rng, parts, spots, use)
            for number in rng.sample(numbers, min(len(numbers), 25)):
                if first is None or event_moment(program.loops, schedule.walks, "use", (use[0], number)) < first:
                    element, found = found_by_hand(parts, schedule.walks, spots, use[0], number)
                    self.assertEqual(element, found, (program.text, schedule.text, places, use, number))
        return told[0]

    def test_judge(self):
        rng = random.Random(71)
        seen = Counter()
        for _ in range(150):
            program, schedule = random_long(rng, rng.choice(self.COUNTS))
            for spread in (30, 10 ** 15, 10 ** 18, 6 * 10 ** 18):
                seen[self.hold_judge(rng, schedule, random_places(rng, program.arrays, spread))] += 1
        self.assertGreater(min(seen.values()), 50, seen)

    def marks_of(self, rng, rows, modulus):
        """Distances at the ends of what is told to be bad or good, and others."""
        marks = [rng.randint(-40, 40) for _ in range(3)] + [rng.randint(-MOST, MOST) for _ in range(3)]
        for row in rng.sample(rows, min(len(rows), 6)):
            for low, high, _ in row:
                marks += [low - 1, low, low + modulus, high, high + 1, high - modulus]
        return rng.sample(marks, min(len(marks), 12))

    def hold_distances(self, rng, schedule, one, layout, other, other_layout):
        """Hold covers clause by clause, and what is good and bad against judge, with the other arrays far away."""
        program = schedule.program
        distances = self.timed(Distances, schedule, one, layout, other, other_layout)
        reader = CoverReader(schedule, one, layout, other, other_layout)
        self.timed(distances.parted, -10 ** 20, 10 ** 20)
        modulus, rows = reader.parted(distances, -10 ** 20, 10 ** 20)
        reader.parted(distances, -rng.randint(0, MOST), rng.randint(0, MOST))
        for rest, row in enumerate(rows):
            for low, high, families in row:
                for k in (low + (rest - low) % modulus, high - (high - rest) % modulus):
                    if low <= k <= high:
                        self.assertIs(distances.is_good(k), families is None)
        if all([isinstance(kind, str) or kind[1] in rings(schedule, name) for name, kind in ((one, layout), (other, other_layout))]):
            far = {name: (name, 10 ** 22 * (at + 1), "up") for at, (name, _) in enumerate(program.arrays)}
            for distance in self.marks_of(rng, rows, modulus):
                far[one], far[other] = (one, 10 ** 21 + distance, layout), (other, 10 ** 21, other_layout)
                self.assertIs(distances.is_good(distance), self.timed(is_right, schedule, Placement(program, *far.values())),
                              (program.text, schedule.text, one, layout, other, other_layout, distance))
        self.hold_queries(rng, distances, rows, modulus)
        return modulus

    def hold_queries(self, rng, distances, rows, modulus):
        """Counts and next good ones against the parts, from a start on."""
        low, high = sorted([rng.randint(-MOST, MOST), rng.randint(-MOST, MOST)])
        count = 0
        for rest, row in enumerate(rows):
            for least, most, families in row:
                if families is not None:
                    first, last = max(least, low), min(most, high)
                    count += max(0, (last - rest) // modulus - (first - 1 - rest) // modulus)
        self.assertEqual(self.timed(distances.count_bad, low, high), count)
        for step in (1, -1):
            told = distances.next_good(low, step=step)
            self.assertTrue(distances.is_good(told) and (told - low) * step >= 0)
            if told != low:
                self.assertEqual(distances.count_bad(min(low, told), max(low, told)), abs(told - low))

    def test_distances(self):
        rng = random.Random(72)
        moduli, before = Counter(), None
        for _ in range(120):
            program, schedule = random_long(rng, rng.choice(self.COUNTS))
            names = [name for name, _ in program.arrays]
            for _ in range(2 if len(names) > 1 else 0):
                one, other = rng.sample(names, 2)
                told = one, random_layout(rng), other, random_layout(rng)
                moduli[self.hold_distances(rng, schedule, *told)] += 1
                distances = Distances(schedule, *told)
                if before is not None:
                    self.hold_unlike(distances, before)
                before = distances
        self.assertGreaterEqual(len(moduli), 6, moduli)

    def hold_unlike(self, distances, before):
        told = self.timed(distances.first_unlike, before)
        back = before.first_unlike(distances)
        if told is None:
            self.assertIsNone(back)
            return
        distance, here = told
        self.assertEqual(back, (distance, not here))
        self.assertEqual([distances.is_good(distance), before.is_good(distance)], [not here, here])
        ahead = abs(distance) - 1
        if ahead >= 0:
            self.assertEqual(distances.count_bad(-ahead, ahead), before.count_bad(-ahead, ahead))
        if distance < 0:
            self.assertEqual(distances.is_good(-distance), before.is_good(-distance))

    def test_rings(self):
        rng = random.Random(73)
        seen = Counter()
        for _ in range(120):
            program, schedule = random_long(rng, rng.choice(self.COUNTS))
            for name, _ in program.arrays:
                told = self.timed(rings, schedule, name)
                self.assertEqual(told, tuple(sorted(told)))
                for m in rng.sample(ALL, 2):
                    places = [(other, 10 ** 20 * (at + 1), "up" if other != name else ("ring", m))
                              for at, (other, _) in enumerate(program.arrays)]
                    want = "right" if m in told else "wrong"
                    self.assertEqual(self.hold_judge(rng, schedule, places), want)
                    seen[want] += 1
        self.assertGreater(min(seen.values()), 40, seen)


class SlowestTest(Case):
    """What gives the most to reckon: eight statements of three reads with all strides, four lanes, rings."""

    def test_all(self):
        rng = random.Random(74)
        moduli = Counter()
        for _ in range(25):
            arrays, loops = placed(prompt_loops(rng, 4 * 10 ** 16))
            schedule = schedule_of(arrays, loops, (), ((rng.choice(("forward", "backward")), 4),))
            names = [name for name, _ in arrays]
            for layouts in ((("ring", 7), ("ring", 8)), (("ring", 5), "down"), ("up", ("ring", 7)), ("up", "up")):
                if len(names) > 1:
                    distances = self.timed(Distances, schedule, names[0], layouts[0], names[1], layouts[1])
                    modulus, _ = self.timed(distances.parted, -10 ** 30, 10 ** 30)
                    moduli[modulus] += 1
                    CoverReader(schedule, names[0], layouts[0], names[1], layouts[1]).parted(distances, -10 ** 30, 10 ** 30)
                    self.timed(distances.first_unlike, distances)
            for name in names:
                self.timed(rings, schedule, name)
            places = [(name, at, ("ring", 8 - at)) for at, name in enumerate(names)]
            self.timed(judge, schedule, Placement(schedule.program, *places))
            self.timed(lanes, schedule, Placement.apart(schedule.program), 0)
        self.assertGreater(max(moduli), 100, moduli)


if __name__ == "__main__":
    unittest.main()
