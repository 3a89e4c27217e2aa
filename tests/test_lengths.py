"""All of it at the greatest lengths: what is told is right there, and is told in well under a second."""

import random
import time
import unittest
from collections import Counter
from itertools import islice

from leastlap.placements import Placement
from leastlap.programs import Program
from leastlap.schedules import Schedule

from tests.samples import MOST, NINETEEN, fault_of, indices_of, random_parts, random_walks, shifted
from tests.spots import (all_places, is_late, is_left_out, is_outside, is_twice, is_unwritten, iterations_near, run_moment,
                         schedule_moment)

HALF = MOST // 2
TAPS = ("B", 1, 0, (("A", 1, 0), ("A", 1, 1), ("A", 1, 2)))
EVEN, ODD = ("C", 2, 0, (("B", 1, 0),)), ("C", 2, 1, (("B", 1, 0),))
LONG_PARTS = ((("A", HALF + 2), ("B", HALF), ("C", MOST)), ((HALF, (TAPS,)), (HALF, (EVEN, ODD))), ("C",))
LONG = Program(*LONG_PARTS)
STEADY = (("X", MOST),), ((1, (("X", 1, 0, ()),)), (MOST - 1, (("X", 1, 1, (("X", 1, 0),)),))), ("X",)


class TimedTest(unittest.TestCase):
    """Each test of it has to be done in well under a second."""

    def setUp(self):
        self.start = time.perf_counter()

    def tearDown(self):
        self.assertLess(time.perf_counter() - self.start, 0.5)


class OutsideTest(TimedTest):
    def told(self, c, d, size, count):
        loops = ((count, (("B", 1, 0, (("A", c, d),)),)),)
        return fault_of(Program, (("A", size), ("B", MOST)), loops)

    def test_first_iteration(self):
        self.assertIsNone(self.told(1, 0, MOST, MOST))
        self.assertIsNone(self.told(-1, MOST - 1, MOST, MOST))
        self.assertIsNone(self.told(0, MOST - 1, MOST, MOST))
        self.assertEqual(self.told(1, 0, MOST - 1, MOST), ("Outside", (0, 0, 0), MOST - 1))
        self.assertEqual(self.told(1, 1, MOST, MOST), ("Outside", (0, 0, 0), MOST - 1))
        self.assertEqual(self.told(-1, MOST - 2, MOST, MOST), ("Outside", (0, 0, 0), MOST - 1))
        self.assertEqual(self.told(3, 0, MOST, MOST), ("Outside", (0, 0, 0), MOST // 3 + 1))
        self.assertEqual(self.told(3, 2, MOST, MOST), ("Outside", (0, 0, 0), MOST // 3))
        self.assertEqual(self.told(-3, MOST - 1, MOST, MOST), ("Outside", (0, 0, 0), MOST // 3 + 1))
        self.assertEqual(self.told(0, MOST, MOST, MOST), ("Outside", (0, 0, 0), 0))
        self.assertEqual(self.told(3, NINETEEN, MOST, MOST), ("Outside", (0, 0, 0), 0))
        self.assertEqual(self.told(-3, -NINETEEN, MOST, MOST), ("Outside", (0, 0, 0), 0))
        self.assertEqual(self.told(3, -1, MOST, MOST), ("Outside", (0, 0, 0), 0))


class TwiceTest(TimedTest):
    def test_two_statements_of_a_loop(self):
        slow, fast = ("X", 1, HALF, ()), ("X", 2, 0, ())
        arrays = (("X", MOST),)
        self.assertEqual(fault_of(Program, arrays, ((HALF, (slow, fast)),)), ("Twice", ((0, 1), HALF // 2)))
        self.assertEqual(fault_of(Program, arrays, ((HALF, (fast, slow)),)), ("Twice", ((0, 0), HALF // 2)))
        self.assertIsNone(fault_of(Program, arrays, ((HALF // 2, (slow, fast)),)))

    def test_only_the_last_iterations_meet(self):
        up, down = ("X", 1, 0, ()), ("X", -1, MOST - 1, ())
        arrays = (("X", MOST),)
        self.assertIsNone(fault_of(Program, arrays, ((HALF, (up, down)),)))
        self.assertEqual(fault_of(Program, arrays, ((HALF + 1, (up, down)),)), ("Twice", ((0, 0), HALF)))
        self.assertEqual(fault_of(Program, arrays, ((HALF, (up,)), (HALF + 1, (down,)))), ("Twice", ((1, 0), HALF)))
        odd = (("X", MOST - 1),), ((HALF, (up, ("X", -1, MOST - 2, ()))),)
        self.assertEqual(fault_of(Program, *odd), ("Twice", ((0, 1), HALF - 1)))

    def test_steps_of_two_and_three(self):
        arrays = (("X", MOST),)
        two, three = (MOST // 3, (("X", 2, 0, ()),)), (MOST // 3, (("X", 3, 1, ()),))
        self.assertEqual(fault_of(Program, arrays, (two, three)), ("Twice", ((1, 0), 1)))
        rows = tuple(("X", 3, at, ()) for at in range(3))
        self.assertIsNone(fault_of(Program, arrays, ((MOST // 3, rows),)))
        self.assertEqual(fault_of(Program, arrays, ((MOST // 3, rows), (1, (("X", 0, MOST - 2, ()),)))),
                         ("Twice", ((1, 0), 0)))


class UnwrittenTest(TimedTest):
    def test_no_fault(self):
        self.assertEqual([LONG.inputs, len(LONG), LONG.outputs], [("A",), 3, ("C",)])
        self.assertIsNone(fault_of(Program, *STEADY))

    def test_outputs(self):
        arrays, loops, outputs = LONG_PARTS
        self.assertEqual(fault_of(Program, arrays, (loops[0], (HALF - 1, (EVEN, ODD))), outputs), ("Unwritten", ("C", MOST - 2)))
        self.assertEqual(fault_of(Program, arrays, (loops[0], (HALF - 1, (EVEN,)), (HALF, (ODD,))), outputs),
                         ("Unwritten", ("C", MOST - 2)))
        self.assertEqual(fault_of(Program, arrays, (loops[0], (HALF, (EVEN,))), outputs), ("Unwritten", ("C", 1)))
        self.assertIsNone(fault_of(Program, arrays, (loops[0], (HALF, (EVEN,)), (HALF, (ODD,))), outputs))

    def test_reads(self):
        arrays, loops, _ = LONG_PARTS
        self.assertEqual(fault_of(Program, arrays, ((HALF - 7, (TAPS,)), loops[1])), ("Unwritten", ((1, 0, 0), HALF - 7)))
        for c in (1, 2):
            self.assertIsNone(fault_of(Program, arrays, ((HALF, (TAPS,)), (HALF, (EVEN, ("C", 2, 1, (("C", c, 0),)))))))

    def test_what_the_loop_has_written_by_then(self):
        """X is written from HALF on upwards, and read from above HALF downwards, so that they meet halfway."""
        loops = ((HALF, (("X", 1, HALF, ()), ("Y", 1, 0, (("X", -1, MOST - 1),)))),)
        self.assertEqual(fault_of(Program, (("X", MOST), ("Y", HALF)), loops), ("Unwritten", ((0, 1, 0), 0)))
        loops = ((HALF // 4, (("X", 3, HALF, ()),)), (HALF // 4, (("X", 3, HALF + 1, ()), ("X", 3, HALF + 2, ()),
                 ("Y", 1, 0, (("X", 2, HALF),)))))
        self.assertIsNone(fault_of(Program, (("X", MOST), ("Y", HALF)), loops))
        loops = ((1, (("X", 0, 0, ()),)), (HALF, (("X", 1, 1, ()), ("Y", 1, 0, (("X", 2, 0),)))))
        self.assertEqual(fault_of(Program, (("X", MOST), ("Y", HALF)), loops), ("Unwritten", ((1, 1, 0), 2)))
        ahead = ((HALF // 2 + 1, (("X", 1, 0, ()),)), (HALF // 2, (("X", 1, HALF // 2 + 1, ()), ("Y", 1, 0, (("X", 2, 0),)))))
        self.assertIsNone(fault_of(Program, (("X", MOST), ("Y", HALF)), ahead))
        ahead = (ahead[0], (HALF, (("X", 1, HALF // 2 + 1, ()), ("Y", 1, 0, (("X", 2, 0),)))))
        self.assertEqual(fault_of(Program, (("X", MOST), ("Y", HALF)), ahead), ("Unwritten", ((1, 1, 0), HALF // 2 + 2)))


class LateTest(TimedTest):
    def test_recurrence(self):
        program = Program(*STEADY)
        self.assertEqual(fault_of(Schedule, program, (("forward", 1), ("backward", 1))), ("Late", ((1, 0, 0), MOST - 2)))
        self.assertEqual(fault_of(Schedule, program, (("forward", 1), ("forward", 2))), ("Late", ((1, 0, 0), 1)))
        self.assertIsNone(fault_of(Schedule, program, (("backward", 4), ("forward", 1))))

    def test_only_far_on(self):
        """It is read ever closer behind what was written, until both are in one group."""
        first = 4 * (MOST // 12)
        start = (first, (("X", 1, 0, ()),))
        main = (first, (("Y", 1, 0, (("X", 3, 0),)), ("X", 2, first, ()), ("X", 2, first + 1, ())))
        program = Program((("X", 3 * first), ("Y", first)), (start, main), ("X",))
        self.assertIsNone(fault_of(Schedule, program, (("forward", 1), ("forward", 1))))
        self.assertEqual(fault_of(Schedule, program, (("forward", 1), ("forward", 2))), ("Late", ((1, 0, 0), first - 1)))
        self.assertEqual(fault_of(Schedule, program, (("forward", 1), ("forward", 4))), ("Late", ((1, 0, 0), first - 5)))
        self.assertEqual(fault_of(Schedule, program, (("forward", 1), ("backward", 1))), ("Late", ((1, 0, 0), first - 1)))

    def test_what_an_earlier_loop_wrote_is_never_late(self):
        start = (HALF, (("X", -1, HALF - 1, ()),))
        main = (HALF, (("X", 1, HALF, (("X", -1, HALF - 1),)),))
        program = Program((("X", MOST),), (start, main), ("X",))
        for walk in (("forward", 1), ("backward", 1), ("backward", 4), ("forward", 4)):
            self.assertIsNone(fault_of(Schedule, program, (("forward", 1), walk)))


class EventsTest(TimedTest):
    def test_are_yielded_without_later_ones(self):
        first = list(islice(Schedule.plain(LONG).events(), 1000))
        self.assertEqual(first, [("write", ("A", index)) for index in range(1000)])
        loops = ((MOST, (("B", 1, 0, ()), ("C", 1, 0, (("B", -1, MOST - 1), ("B", 1, 0))[1:]))),)
        schedule = Schedule(Program((("B", MOST), ("C", MOST)), loops, ("B",)), (("backward", 4),))
        self.assertEqual(list(islice(schedule.events(), 12)),
                         [("write", ((0, 0), MOST - at)) for at in (1, 2, 3, 4)]
                         + [("use", ((0, 1, 0), MOST - at)) for at in (1, 2, 3, 4)]
                         + [("write", ((0, 1), MOST - at)) for at in (1, 2, 3, 4)])

    def test_is_before(self):
        schedule = Schedule(LONG, (("backward", 4), ("forward", 4)))
        order = [("write", ("A", 0)), ("write", ("A", HALF + 1)), ("use", ((0, 0, 0), HALF - 1)),
                 ("use", ((0, 0, 0), HALF - 4)), ("write", ((0, 0), HALF - 1)), ("write", ((0, 0), HALF - 4)),
                 ("use", ((0, 0, 2), HALF - 5)), ("use", ((0, 0, 1), 0)), ("write", ((0, 0), 0)), ("use", ((1, 0, 0), 0)),
                 ("use", ((1, 0, 0), HALF - 1)), ("write", ((1, 0), HALF - 4)), ("use", ((1, 1, 0), HALF - 4)),
                 ("write", ((1, 1), HALF - 1)), ("use", ("C", 0)), ("use", ("C", MOST - 1))]
        for at, event in enumerate(order):
            for further, other in enumerate(order):
                self.assertIs(schedule.is_before(event, other), at < further, (event, other))


class OthersTest(TimedTest):
    def test_elements_and_writes(self):
        self.assertEqual(LONG.element((1, 1), HALF - 1), ("C", MOST - 1))
        self.assertEqual(LONG.write_of(("C", MOST - 1)), ((1, 1), HALF - 1))
        self.assertEqual(LONG.write_of(("C", MOST - 2)), ((1, 0), HALF - 1))
        self.assertEqual(LONG.write_of(("A", HALF + 1)), ("A", HALF + 1))
        self.assertEqual(LONG.size_of("C"), MOST)

    def test_texts(self):
        self.assertEqual(Program.read(LONG.text), LONG)
        placement = Placement.apart(LONG)
        self.assertEqual(placement.places, (("A", 0, "up"), ("B", HALF + 2, "up"), ("C", MOST + 2, "up")))
        self.assertEqual(placement.size, 2 * MOST + 2)
        self.assertEqual(Placement.read(LONG, placement.text), placement)

    def test_eight_statements_with_three_reads(self):
        names = "ABCDEF"
        reads = tuple(("A", c, d) for c, d in ((1, 0), (-1, MOST // 9), (0, 5)))
        rows = tuple((names[1 + at % 5], 3, at, reads) for at in range(8))
        arrays = tuple((name, MOST) for name in names)
        program = Program(arrays, ((MOST // 9, rows),))
        for direction in ("forward", "backward"):
            for lanes in (1, 2, 4):
                self.assertEqual(Schedule(program, ((direction, lanes),)).walks, ((direction, lanes),))


def lengthened(rng, parts):
    """The parts with all lengths and shifts multiplied, some of them a little greater or less then."""
    factor = rng.choice((10 ** 15, 10 ** 15 + 7, 3 * 10 ** 14 - 1, 2 ** 49))
    arrays, loops, outputs = parts
    noise = rng.choice((0, 0, 1, 3))
    bit = lambda: rng.randint(-noise, noise)
    loops = tuple((max(1, count * factor + bit()), tuple(
        (name, c or 1, d * factor + bit(), tuple((other, k, e * factor + bit()) for other, k, e in reads))
        for name, c, d, reads in statements)) for count, statements in loops)
    names = [name for name, _ in arrays]
    loops = shifted(loops, {name: -min(indices_of(loops, name)) for name in names})
    sizes = {name: max(indices_of(loops, name)) + 1 for name in names}
    if rng.random() < 0.2:
        name = rng.choice(names)
        sizes[name] = max(1, sizes[name] - 1)
    return tuple((name, sizes[name]) for name in names), loops, outputs if rng.random() < 0.3 else ()


class SpotsTest(unittest.TestCase):
    """Long programs, held at the iterations in which something may begin or end."""

    def hold_outside(self, rng, arrays, loops, told):
        for place, *_ in all_places(loops):
            if told is None or place <= told[0]:
                for i in iterations_near(rng, loops, place, told[1:] if told and place == told[0] else ()):
                    if told is None or (place, i) < told:
                        self.assertFalse(is_outside(arrays, loops, place, i), (arrays, loops, place, i))
        if told is not None:
            self.assertTrue(is_outside(arrays, loops, *told), (arrays, loops, told))

    def hold_run(self, rng, loops, told, test, size):
        """That of the places of so many parts, test is true of what is told and of none ahead of it."""
        for place, *_ in all_places(loops):
            if len(place) == size:
                for i in iterations_near(rng, loops, place, told[1:] if told else ()):
                    if told is None or run_moment(place, i) < run_moment(*told):
                        self.assertFalse(test(loops, place, i), (loops, place, i, told))
        if told is not None:
            self.assertTrue(test(loops, *told), (loops, told))

    def hold_outputs(self, rng, arrays, loops, outputs, told):
        for name, size in arrays:
            marks = [0, 1, size // 2, size - 2, size - 1] + [rng.randrange(size) for _ in range(3)]
            marks += indices_of(loops, name) + [mark + 1 for mark in indices_of(loops, name)]
            for index in marks + ([told[1] - 1, told[1] - 2] if told else []):
                if name in outputs and 0 <= index < size and (told is None or (name, index) < told):
                    self.assertFalse(is_left_out(loops, name, index), (arrays, loops, name, index))
        if told is not None:
            self.assertTrue(is_left_out(loops, *told))

    def hold_faults(self, rng, arrays, loops, outputs, told):
        kind = told and told[0]
        self.hold_outside(rng, arrays, loops, told[1:] if kind == "Outside" else None)
        if kind != "Outside":
            self.hold_run(rng, loops, told[1] if kind == "Twice" else None, is_twice, 2)
        if kind not in ("Outside", "Twice"):
            use = told[1] if kind == "Unwritten" and isinstance(told[1][0], tuple) else None
            self.hold_run(rng, loops, use, is_unwritten, 3)
            if use is None:
                self.hold_outputs(rng, arrays, loops, outputs, told and told[1])

    def hold_late(self, rng, program, walks):
        told = fault_of(Schedule, program, walks)
        loops = program.loops
        use = told and told[1]
        for place, *_ in all_places(loops):
            if len(place) == 3:
                for i in iterations_near(rng, loops, place, use[1:] if use else ()):
                    if use is None or schedule_moment(loops, walks, place, i) < schedule_moment(loops, walks, *use):
                        self.assertFalse(is_late(loops, walks, place, i), (loops, walks, place, i, told))
        if use is not None:
            self.assertTrue(is_late(loops, walks, *use), (loops, walks, told))
        return use is not None

    def test_random(self):
        rng = random.Random(45)
        seen, late, slowest = Counter(), Counter(), 0
        for _ in range(1500):
            parts = lengthened(rng, random_parts(rng))
            start = time.perf_counter()
            told = fault_of(Program, *parts)
            slowest = max(slowest, time.perf_counter() - start)
            seen[told and told[0]] += 1
            self.hold_faults(rng, *parts, told)
            if told is None:
                program = Program(*parts)
                for _ in range(3):
                    late[self.hold_late(rng, program, random_walks(rng, parts[1]))] += 1
        self.assertGreater(min(seen[kind] for kind in (None, "Outside", "Twice", "Unwritten")), 50, seen)
        self.assertGreater(min(late[True], late[False]), 100, late)
        self.assertLess(slowest, 0.5)

    def test_interleaved_writes(self):
        """An array is written by two or three statements in turn, and read with another step, at all lengths."""
        rng = random.Random(47)
        seen, late = Counter(), Counter()
        for _ in range(1500):
            wide, c, count = rng.choice((2, 3)), rng.choice((-1, 0, 1, 2, 3)), rng.randint(1, MOST // 6)
            ahead = rng.choice((1, 5, count // 3, count, rng.randint(1, MOST // 3)))
            last = ahead + wide * count - 1
            shift = rng.choice((0, 1, ahead // 2, ahead - 1, ahead, count, rng.randint(0, last)))
            count = max(1, min(count, (last - shift) // c + 1 if c > 0 else shift if c < 0 else count) - rng.randint(0, 5))
            writers = [("X", wide, ahead + at, ()) for at in range(wide)]
            rng.shuffle(writers)
            writers.insert(rng.randint(0, wide), ("Y", 1, 0, (("X", c, shift),)))
            loops = ((ahead, (("X", 1, 0, ()),)), (count, tuple(writers)))
            parts = ((("X", last + 1), ("Y", MOST)), loops, ())
            told = fault_of(Program, *parts)
            seen[told and told[0]] += 1
            self.hold_faults(rng, *parts, told)
            if told is None:
                for _ in range(2):
                    late[self.hold_late(rng, Program(*parts), random_walks(rng, loops))] += 1
        self.assertGreater(min(seen[None], seen["Unwritten"], late[True], late[False]), 100, (seen, late))


if __name__ == "__main__":
    unittest.main()
