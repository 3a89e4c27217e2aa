"""least_memory and least_over_directions: the examples, the edges of point 13, and a search over all small placements."""

import copy
import random
import unittest
from collections import Counter
from itertools import product

from leastlap.errors import Late, NoMemory
from leastlap.judging import is_right
from leastlap.memory import least_memory, least_over_directions
from leastlap.placements import Placement
from leastlap.programs import Program
from leastlap.rings import rings
from leastlap.schedules import Schedule

from tests.conflicts import all_conflicts, random_layout
from tests.least import ends_of, no_memory, searched_least, walked_least
from tests.samples import BACK, FIRST, FOUR, PLAIN, ROW, STRIP_PARTS, THEN, fault_of, random_parts, random_walks, schedule_of
from tests.walking import walked_events, walked_fault, walked_late

UPS = (("A", "up"), ("B", "up"), ("C", "up"))
MOST = 10 ** 18


def ups(schedule, **others):
    """All arrays up, but for others."""
    return tuple((name, others.get(name, "up")) for name, _ in schedule.program.arrays)


def answer_of(*arguments, **told):
    try:
        least_memory(*arguments, **told)
    except NoMemory as error:
        return error.answer
    return None


class Case(unittest.TestCase):
    def least(self, schedule, layouts, told=()):
        """The least size, its placement being right, of this size, and one that fits."""
        size, placement = least_memory(schedule, layouts, told=told)
        self.assertIs(type(size), int)
        self.assertIs(type(placement), Placement)
        self.assertEqual(placement.program, schedule.program)
        self.assertEqual(placement.size, size)
        self.assertEqual(tuple((name, layout) for name, _, layout in placement.places), layouts)
        self.assertEqual(tuple((name, placement[name][0]) for name, _ in told), told)
        self.assertIs(is_right(schedule, placement), True)
        return size


class ExamplesTest(Case):
    def test_least_memory(self):
        self.assertEqual([least_memory(PLAIN, UPS)[0], least_memory(BACK, UPS)[0],
                          least_memory(PLAIN, UPS, told=(("B", 0),))[0]], [22, 20, 30])
        self.assertEqual([self.least(PLAIN, UPS), self.least(BACK, UPS), self.least(PLAIN, UPS, (("B", 0),))], [22, 20, 30])

    def test_least_over_directions(self):
        self.assertEqual(least_over_directions(ROW, (1, 1), UPS)[:2], (20, BACK))
        size, schedule, placement = least_over_directions(ROW, (1, 1), UPS)
        self.assertEqual((placement.size, is_right(schedule, placement)), (size, True))

    def test_interface(self):
        self.assertEqual({made.__module__ for made in (least_memory, least_over_directions)}, {"leastlap.memory"})
        self.assertEqual(least_memory(layouts=UPS, schedule=PLAIN, told=(("A", 3),))[0], self.least(PLAIN, UPS, (("A", 3),)))
        told = least_over_directions(layouts=UPS, lanes=(1, 1), program=ROW, told=(("B", 0),))
        self.assertEqual([type(part) for part in told], [int, Schedule, Placement])
        self.assertIs(type(least_memory(PLAIN, UPS)), tuple)
        with self.assertRaises(TypeError):
            least_memory(PLAIN, UPS, (("A", 3),))
        with self.assertRaises(TypeError):
            least_over_directions(ROW, (1, 1), UPS, (("A", 3),))

    def test_nothing_is_changed(self):
        schedule, program = copy.deepcopy(FOUR), copy.deepcopy(ROW)
        before = repr([vars(schedule), vars(schedule.program), vars(program)])
        told = [least_memory(schedule, UPS)[0], least_over_directions(program, (4, 4), UPS)[0]]
        self.assertEqual(repr([vars(schedule), vars(schedule.program), vars(program)]), before)
        self.assertEqual(told, [least_memory(schedule, UPS)[0], least_over_directions(program, (4, 4), UPS)[0]])


class EdgesTest(Case):
    def test_one_array(self):
        for size in (1, 7, MOST):
            schedule = schedule_of((("A", size),), ((1, (("A", 0, 0, ()),)),))
            for layout, want in (("up", size), ("down", size), (("ring", 5), min(size, 5)), (("ring", 1), 1)):
                self.assertEqual(self.least(schedule, (("A", layout),)), want)
                first = 3 + (size - 1 if layout == "down" else 0)
                self.assertEqual(self.least(schedule, (("A", layout),), (("A", first),)), want + 3)

    def test_arrays_without_conflicts(self):
        """What is never used may lie anywhere, so that the greatest array alone tells the size."""
        arrays = (("A", 9), ("B", 4), ("C", 7))
        schedule = schedule_of(arrays, ((4, (("A", 1, 0, ()), ("B", 1, 0, ()), ("C", 1, 0, ()))),))
        for layout in ("up", "down"):
            self.assertEqual(self.least(schedule, tuple((name, layout) for name, _ in arrays)), 9)
        self.assertEqual(self.least(schedule, ups(schedule, A=("ring", 2))), 7)
        self.assertEqual(self.least(schedule, ups(schedule), (("B", 100),)), 104)
        self.assertEqual(self.least(schedule, ups(schedule), (("B", 3),)), 9)

    def test_copies_of_great_length(self):
        """B[i] = A[i]: over one another, whichever way both go; or as far apart as what is still to be read needs."""
        for n in (1, 2, 5, 10 ** 9, MOST):
            schedule = schedule_of((("A", n), ("B", n)), ((n, (("B", 1, 0, (("A", 1, 0),)),)),), ("B",))
            self.assertEqual(self.least(schedule, ups(schedule)), n)
            self.assertEqual(self.least(schedule, (("A", "down"), ("B", "down"))), n)
            # B goes up from cell k, A down to it: with A's first cell at f, write i and read j > i meet if k + i = f - j.
            self.assertEqual(self.least(schedule, (("A", "down"), ("B", "up"))), 2 * n - 1)
            both = schedule_of((("A", n), ("B", n)), schedule.program.loops, ("A", "B"))
            self.assertEqual(self.least(both, ups(both)), 2 * n)
            self.assertEqual(self.least(both, ups(both), (("A", 7), ("B", n + 10))), 2 * n + 10)
            self.assertEqual(self.least(both, ups(both), (("A", n - 1),)), 3 * n - 1)
            self.assertEqual(self.least(both, ups(both), (("A", n),)), 2 * n)

    def test_taps_of_great_length(self):
        """As ROW, longer: forward B lies one cell ahead of A, two behind it backward, and C needs twice its size."""
        n = 10 ** 17
        arrays = (("A", n + 2), ("B", n), ("C", 2 * n))
        loops = ((n, (("B", 1, 0, (("A", 1, 0), ("A", 1, 1), ("A", 1, 2))),)),
                 (n, (("C", 2, 0, (("B", 1, 0),)), ("C", 2, 1, (("B", 1, 0),)))))
        schedule = schedule_of(arrays, loops, ("C",))
        self.assertEqual(self.least(schedule, ups(schedule)), 2 * n + 2)
        self.assertEqual(self.least(schedule.with_walk(0, "backward", 1), ups(schedule)), 2 * n)
        told = least_over_directions(schedule.program, (1, 1), ups(schedule))
        self.assertEqual(told[:2], (2 * n, schedule.with_walk(0, "backward", 1)))
        self.assertEqual(self.least(schedule, ups(schedule), (("B", 0),)), 3 * n)

    def test_gaps(self):
        """In STRIP all others lie within X; of two arrays of even elements, one lies between those of the other one."""
        small = Schedule.plain(Program(*STRIP_PARTS))
        self.assertEqual(self.least(small, ups(small)), 16)
        n = 10 ** 17
        arrays = (("A", 2 * n), ("B", 2 * n), ("C", n))
        loops = ((n, (("A", 2, 0, ()),)), (n, (("B", 2, 0, ()),)), (n, (("C", 1, 0, (("A", 2, 0), ("B", 2, 0))),)))
        schedule = schedule_of(arrays, loops)
        self.assertEqual(self.least(schedule, ups(schedule)), 2 * n + 1)
        self.assertEqual(self.least(schedule, ups(schedule), (("A", 0), ("B", 1))), 2 * n + 1)
        self.assertEqual(answer_of(schedule, ups(schedule), told=(("A", 0), ("B", 2))), ("distance", "A", "B"))

    def test_rings(self):
        n = 10 ** 18 - 3
        arrays = (("A", n), ("B", n + 1), ("C", n))
        loops = ((1, (("B", 0, 0, ()),)), (n, (("B", 1, 1, (("A", 1, 0), ("B", 1, 0))), ("C", 1, 0, (("B", 1, 1),)))))
        schedule = schedule_of(arrays, loops, ("C",))
        self.assertEqual(rings(schedule, "B")[0], 1)
        # C over A, and a single cell for B.
        self.assertEqual(self.least(schedule, ups(schedule, B=("ring", 1))), n + 1)
        self.assertEqual(self.least(schedule, ups(schedule, B=("ring", 8))), n + 8)
        self.assertEqual(self.least(schedule, ups(schedule, B=("ring", 1)), (("B", 0),)), n + 1)
        self.assertEqual(self.least(schedule, ups(schedule, B=("ring", 1)), (("B", 10 ** 29),)), 10 ** 29 + 1)
        self.assertEqual(answer_of(schedule, ups(schedule, C=("ring", 3))), ("ring", "C"))

    def test_lanes(self):
        """Two lanes write C twice ahead of the second read of B, so that B has to lie one cell further up."""
        n = 10 ** 6
        loops = ((n, (("B", 1, 0, ()),)), (n, (("C", 2, 0, (("B", 1, 0),)), ("C", 2, 1, (("B", 1, 0),)))))
        schedule = schedule_of((("B", n), ("C", 2 * n)), loops, ("C",))
        two, layouts = schedule.with_walk(1, "forward", 2), (("B", "up"), ("C", "up"))
        self.assertEqual([self.least(schedule, layouts), self.least(two, layouts)], [2 * n, 2 * n + 1])
        self.assertEqual(self.least(schedule, layouts, (("B", n), ("C", 0))), 2 * n)
        self.assertEqual(answer_of(two, layouts, told=(("B", n), ("C", 0))), ("distance", "B", "C"))
        self.assertEqual(self.least(two, layouts, (("B", n + 1), ("C", 0))), 2 * n + 1)
        # Backward C may begin two cells above B instead: C[2] is written ahead of the second reads of B[1] and B[0].
        self.assertEqual(least_over_directions(schedule.program, (1, 2), layouts, told=(("B", n),))[:2],
                         (3 * n + 2, schedule.with_walk(1, "backward", 2)))


class NoMemoryTest(Case):
    def test_rings_ahead_of_distances(self):
        told = (("A", 0), ("B", 1), ("C", 0))
        self.assertEqual(answer_of(PLAIN, UPS, told=told), ("distance", "A", "B"))
        self.assertEqual(answer_of(PLAIN, UPS[:2] + (("C", ("ring", 8)),), told=told), ("ring", "C"))
        both = (("A", "up"), ("B", ("ring", 8)), ("C", ("ring", 8)))
        self.assertEqual(answer_of(PLAIN, both, told=told), ("ring", "B"))
        self.assertEqual(answer_of(PLAIN, (("A", ("ring", 2)),) + both[1:]), ("ring", "A"))

    def test_order_of_distances(self):
        """All of them are outputs, so that no two may share a cell."""
        loops = ((4, (("A", 1, 0, ()), ("B", 1, 0, ()), ("C", 1, 0, ()))),)
        schedule = schedule_of((("A", 4), ("B", 4), ("C", 4)), loops, ("A", "B", "C"))
        for firsts, want in (((0, 2, 3), ("A", "B")), ((0, 3, 20), ("A", "B")), ((0, 10, 3), ("A", "C")),
                             ((5, 9, 8), ("A", "C")), ((0, 10, 7), ("B", "C")), ((0, 10, 13), ("B", "C")), ((0, 4, 8), None)):
            answer = answer_of(schedule, UPS, told=tuple(zip("ABC", firsts)))
            self.assertEqual(answer, want and ("distance",) + want)
        self.assertEqual(answer_of(schedule, UPS, told=(("B", 1), ("C", 2))), ("distance", "B", "C"))
        self.assertEqual(self.least(schedule, UPS, (("B", 1), ("C", 5))), 13)
        self.assertEqual(self.least(schedule, UPS, (("B", 4), ("C", 8))), 12)

    def test_error(self):
        self.assertEqual(fault_of(least_memory, PLAIN, (("A", "up"), ("B", ("ring", 3)), ("C", "up"))), ("NoMemory",))
        with self.assertRaises(NoMemory) as caught:
            least_memory(PLAIN, UPS, told=(("A", 0), ("B", 1)))
        self.assertEqual(caught.exception.answer, ("distance", "A", "B"))


class DirectionsTest(Case):
    def best(self, program, lanes, layouts, told=()):
        """The best one of all schedules, each asked alone."""
        best = None
        for directions in product(("forward", "backward"), repeat=len(lanes)):
            try:
                schedule = Schedule(program, tuple(zip(directions, lanes)))
                size = least_memory(schedule, layouts, told=told)[0]
            except (Late, NoMemory):
                continue
            if best is None or size < best[0]:
                best = size, schedule
        return best

    def hold(self, program, lanes, layouts, told=()):
        found, best = least_over_directions(program, lanes, layouts, told=told), self.best(program, lanes, layouts, told)
        self.assertEqual(found if found is None else found[:2], best, (program.text, lanes, layouts, told))
        if found is not None:
            size, schedule, placement = found
            self.assertEqual((placement.size, is_right(schedule, placement)), (size, True))
            self.assertEqual(tuple((name, placement[name][0]) for name, _ in told), told)
        return best

    def test_ties(self):
        """Of equal sizes the first directions are taken, forward ahead of backward, first loops first."""
        program = schedule_of((("A", 3), ("B", 3)), ((3, (("A", 1, 0, ()),)), (3, (("B", 1, 0, (("A", 1, 0),)),)))).program
        size, schedule = self.hold(program, (1, 2), (("A", "up"), ("B", "up")))
        self.assertEqual((size, schedule.walks), (3, (("forward", 1), ("forward", 2))))
        # Only with the second loop going backward the least size is reached, whichever way the first one goes.
        loops = ((3, (("A", 1, 0, ()),)), (3, (("B", 1, 0, (("A", 1, 0), ("A", 1, 1))),)))
        program = Program((("A", 4), ("B", 3)), ((4, (("A", 1, 0, ()),)),) + loops[1:], ("B",))
        size, schedule = self.hold(program, (1, 1), (("A", "up"), ("B", "up")), (("A", 0), ("B", 1)))
        self.assertEqual((size, schedule.walks), (4, (("forward", 1), ("backward", 1))))
        self.assertEqual(self.hold(program, (1, 1), (("A", "up"), ("B", "up")))[1].walks, (("forward", 1), ("forward", 1)))

    def test_late_ones_and_those_without_memory_are_left_out(self):
        program = Program(*STRIP_PARTS)
        size, schedule = self.hold(program, (1, 1), (("A", "up"), ("T", "up"), ("X", "up"), ("Z", "up")))
        self.assertEqual(schedule.walks, (("forward", 1), ("forward", 1)))
        self.assertEqual(self.hold(program, (2, 2), (("A", "up"), ("T", "up"), ("X", "up"), ("Z", "up"))), None)
        self.assertEqual((FIRST, THEN), program.loops)

    def test_none(self):
        rings_of_all = tuple((name, ("ring", 2)) for name, _ in ROW.arrays)
        self.assertIs(least_over_directions(ROW, (1, 1), rings_of_all), None)
        self.assertIs(least_over_directions(ROW, (1, 1), UPS, told=(("B", 0), ("C", 0))), None)
        # A loop that reads what it writes in the iteration before: late with two lanes, either way.
        chain = schedule_of((("A", 9),), ((1, (("A", 0, 0, ()),)), (8, (("A", 1, 1, (("A", 1, 0),)),))), ("A",)).program
        self.assertIs(least_over_directions(chain, (1, 2), (("A", "up"),)), None)
        self.assertEqual(least_over_directions(chain, (2, 1), (("A", "up"),))[:2],
                         (9, Schedule(chain, (("forward", 2), ("forward", 1)))))

    def test_random_ones(self):
        rng, seen = random.Random(93), Counter()
        for schedule, layouts, told, _ in random_problems(rng, 120, 40):
            lanes = tuple(rng.choice((1, 2)) for _ in schedule.walks)
            best = self.hold(schedule.program, lanes, layouts, told)
            seen[best if best is None else tuple(direction for direction, _ in best[1].walks)] += 1
        self.assertGreater(len(seen), 4, seen)
        self.assertGreater(seen[None], 5, seen)


def random_problems(rng, many, most, **told):
    """Schedules of random programs with layouts and told first cells, and the list of all conflicts.

    All sizes together are at most a number.
    """
    while many > 0:
        parts = random_parts(rng, told.get("iterations", 5))
        if walked_fault(*parts) or sum(size for _, size in parts[0]) > most or len(parts[0]) > told.get("arrays", 6):
            continue
        walks = random_walks(rng, parts[1])
        events = walked_events(*parts, walks)
        if walked_late(events) is not None:
            continue
        schedule = Schedule(Program(*parts), walks)
        layouts = tuple((name, random_layout(rng, 0.3)) for name, _ in parts[0])
        sizes, spread = dict(parts[0]), rng.choice((3, 10))
        names = sorted(rng.sample(sorted(sizes), rng.choice((0, 0, 1, 1, 2, len(sizes))) % (len(sizes) + 1)))
        firsts = tuple((name, rng.randint(0, spread) - ends_of(sizes[name], dict(layouts)[name])[0]) for name in names)
        many -= 1
        yield schedule, layouts, firsts, events


class SearchTest(Case):
    """Against all small placements."""

    def test_walked(self):
        """Each placement is walked, of programs of few elements."""
        rng, seen = random.Random(91), Counter()
        for schedule, layouts, told, events in random_problems(rng, 60, 8, arrays=3, iterations=3):
            arrays = schedule.program.arrays
            self.hold(schedule, layouts, told, events, walked_least, seen)
        self.assertGreater(len(seen), 5, seen)

    def test_searched(self):
        """The bad distances are searched, of programs of more elements."""
        rng, seen = random.Random(92), Counter()
        for schedule, layouts, told, events in random_problems(rng, 250, 30):
            self.hold(schedule, layouts, told, events, None, seen)
        self.assertGreater(len(seen), 15, seen)
        self.assertGreater(min(seen["ring"], seen["distance"]), 5, seen)

    def hold(self, schedule, layouts, told, events, walked, seen):
        arrays, about = schedule.program.arrays, (schedule.program.text, schedule.text, layouts, told)
        conflicts = all_conflicts(events)
        answer = no_memory(conflicts, arrays, dict(layouts), told)
        if answer is not None:
            self.assertEqual(answer_of(schedule, layouts, told=told), answer, about)
            seen[answer[0]] += 1
            return
        most = sum(size for _, size in arrays) + max([first + size for _, first in told for _, size in arrays], default=0)
        if walked is None:
            want = searched_least(conflicts, arrays, dict(layouts), told, most)
        else:
            want = walked(events, arrays, dict(layouts), told, most)
        self.assertEqual(self.least(schedule, layouts, told), want, about)
        seen[want] += 1


if __name__ == "__main__":
    unittest.main()
