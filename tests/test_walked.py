"""Errors, order and Late on many programs of few iterations, held against the plain walk."""

import random
import unittest
from collections import Counter
from itertools import product

from leastlap.programs import Program
from leastlap.schedules import Schedule

from tests.samples import fault_of, random_parts, random_walks
from tests.walking import walked_events, walked_fault, walked_late


class WalkedProgramsTest(unittest.TestCase):
    def test_errors(self):
        rng = random.Random(41)
        seen = Counter()
        for at in range(3000):
            parts = random_parts(rng, most=7 if at % 4 else 25)
            want = walked_fault(*parts)
            seen[want and want[0]] += 1
            self.assertEqual(fault_of(Program, *parts), want, parts)
        for kind in (None, "Outside", "Twice", "Unwritten"):
            self.assertGreater(seen[kind], 200, kind)

    def test_two_statements_with_all_steps(self):
        """One array that two statements write, in one loop and in two."""
        seen = Counter()
        for c, k in product((-3, -2, -1, 1, 2, 3), repeat=2):
            for d in range(-4, 22, 2):
                one, other = ("A", c, 18, ()), ("A", k, 18 + d, ())
                for loops in (((5, (one, other)),), ((5, (one,)), (4, (other,))), ((6, (other, one)),)):
                    parts = ((("A", 60),), loops, ())
                    want = walked_fault(*parts)
                    seen[want and want[0]] += 1
                    self.assertEqual(fault_of(Program, *parts), want, parts)
        self.assertGreater(min(seen[None], seen["Twice"]), 100)

    def test_a_read_with_all_steps(self):
        seen = Counter()
        for c, k in product((-3, -2, -1, 1, 2, 3), range(-3, 4)):
            for d in range(-6, 7):
                first = ("A", c, 21 - 7 * (c > 0), ())
                reader = ("B", 1, 0, (("A", k, 21 + d),))
                for loops in (((5, (first, reader)),), ((5, (reader, first)),), ((6, (first,)), (4, (reader,)))):
                    parts = ((("A", 60), ("B", 5)), loops, ())
                    want = walked_fault(*parts)
                    seen[want and want[0]] += 1
                    self.assertEqual(fault_of(Program, *parts), want, parts)
        self.assertGreater(min(seen[None], seen["Unwritten"]), 50)

    def test_elements_and_writes(self):
        rng = random.Random(42)
        for _ in range(300):
            parts = random_parts(rng)
            if walked_fault(*parts):
                continue
            program = Program(*parts)
            writes = {}
            for (kind, at), element in walked_events(*parts, (("forward", 1),) * len(parts[1])):
                if kind == "write":
                    writes[element] = at
                if isinstance(at[0], tuple):
                    self.assertEqual(program.element(*at), element)
            for name, size in parts[0]:
                for index in range(size):
                    self.assertEqual(program.write_of((name, index)), writes.get((name, index)))
            inputs = {element[0] for element, at in writes.items() if element == at}
            self.assertEqual(program.inputs, tuple(sorted(inputs)))
            self.assertEqual(len(program), sum(len(statements) for _, statements in parts[1]))


class WalkedSchedulesTest(unittest.TestCase):
    def hold(self, program, parts, walks):
        """Hold a schedule against the walk; return whether it is late."""
        events = walked_events(*parts, walks)
        late = walked_late(events)
        self.assertEqual(fault_of(Schedule, program, walks), late and ("Late", late), (parts, walks))
        if late is None:
            schedule = Schedule(program, walks)
            self.assertEqual(list(schedule.events()), [event for event, _ in events], (parts, walks))
            self.hold_order(schedule, [event for event, _ in events])
        return late is not None

    def hold_order(self, schedule, events):
        rng = random.Random(len(events))
        for at in range(len(events) - 1):
            self.assertIs(schedule.is_before(events[at], events[at + 1]), True)
            self.assertIs(schedule.is_before(events[at + 1], events[at]), False)
        for _ in range(20):
            at, other = rng.randrange(len(events)), rng.randrange(len(events))
            self.assertIs(schedule.is_before(events[at], events[other]), at < other)

    def test_order_and_late(self):
        rng = random.Random(43)
        seen = Counter()
        for at in range(1500):
            parts = random_parts(rng, most=7 if at % 4 else 15)
            if walked_fault(*parts):
                continue
            program = Program(*parts)
            for _ in range(4):
                seen[self.hold(program, parts, random_walks(rng, parts[1]))] += 1
        self.assertGreater(min(seen[True], seen[False]), 500)

    def test_recurrences_with_all_walks(self):
        """What was written some iterations ago is read, by the statement itself and by ones ahead and behind."""
        seen = Counter()
        for lag, count, c in product(range(0, 6), (1, 4, 5, 9), (-3, -2, -1, 1, 2, 3)):
            low = 3 * (count + 6) if c < 0 else 0
            start = (6, (("A", c, low, ()), ("B", c, low, ())))
            for order in (0, 1, 2):
                writer = ("A", c, low + 6 * c, () if order else (("A", c, low + (6 - lag) * c),))
                reader = ("B", c, low + 6 * c, (("A", c, low + (6 - lag) * c),))
                main = (count, (writer, reader) if order < 2 else (reader, writer))
                parts = ((("A", 80), ("B", 80)), (start, main), ())
                if walked_fault(*parts):
                    continue
                program = Program(*parts)
                for walk in product(("forward", "backward"), (1, 2, 4)):
                    seen[self.hold(program, parts, (("forward", 1), walk))] += 1
        self.assertGreater(min(seen[True], seen[False]), 500)

    def test_interleaved_writes_with_all_walks(self):
        """An array is written by two or three statements in turn, and is read with other steps than it is written."""
        rng = random.Random(46)
        seen = Counter()
        for wide, sign, c, ahead in product((2, 3), (1, -1), range(-3, 4), (1, 4, 7)):
            for _ in range(12):
                count, shift = rng.randint(1, 11), rng.randint(0, 12)
                last = ahead + wide * count - 1
                turned = (lambda k, d: (k, d)) if sign > 0 else (lambda k, d: (-k, last - d))
                writers = [("X",) + turned(wide, ahead + at) + ((),) for at in range(wide)]
                rng.shuffle(writers)
                reader = ("Y", 1, 0, (("X",) + turned(c, shift),))
                writers.insert(rng.randint(0, wide), reader)
                start = (ahead, (("X",) + turned(1, 0) + ((),),))
                parts = ((("X", last + 1), ("Y", count)), (start, (count, tuple(writers))), ("X",))
                if walked_fault(*parts):
                    continue
                for walk in product(("forward", "backward"), (1, 2, 4)):
                    late = self.hold(Program(*parts), parts, (("forward", 1), walk))
                    seen[late, wide, c] += 1
        for wide, c, late in product((2, 3), (0, 1, 2, 3), (True, False)):
            self.assertGreater(seen[late, wide, c], 5, (late, wide, c))

    def test_one_loop_to_four(self):
        rng = random.Random(44)
        seen = Counter()
        while min(seen[many] for many in (1, 2, 3, 4)) < 20:
            parts = random_parts(rng)
            if not walked_fault(*parts):
                seen[len(parts[1])] += 1
                self.hold(Program(*parts), parts, random_walks(rng, parts[1]))


if __name__ == "__main__":
    unittest.main()
