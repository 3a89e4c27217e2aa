"""rings and lanes: the examples, and the edges that the document names."""

import copy
import inspect
import unittest

from leastlap import rings as module
from leastlap.judging import is_right
from leastlap.placements import Placement
from leastlap.programs import Program
from leastlap.rings import lanes, rings
from leastlap.schedules import Schedule

from tests.conflicts import all_conflicts, right_rings, walked_judge
from tests.samples import BACK, FOUR, PLAIN, STRIP_PARTS, TIGHT, schedule_of
from tests.walking import walked_events, walked_late

STRIP = Schedule.plain(Program(*STRIP_PARTS))
ALL = (1, 2, 3, 4, 5, 6, 7, 8)


def lagging(lag, c, count=20, outputs=(), lanes_of_main=1):
    """X[c (i + lag)] is made from X[c i]."""
    low = -c * (count + lag - 1) if c < 0 else 0
    loops = ((lag, (("X", c, low, ()),)), (count, (("X", c, low + c * lag, (("X", c, low),)),)))
    return schedule_of((("X", 3 * (count + lag)),), loops, outputs, (("forward", 1), ("forward", lanes_of_main)))


class Case(unittest.TestCase):
    def hold_rings(self, schedule, name):
        program = schedule.program
        events = walked_events(program.arrays, program.loops, program.outputs, schedule.walks)
        told = rings(schedule, name)
        self.assertEqual(told, right_rings(all_conflicts(events), name))
        return told

    def hold_lanes(self, schedule, placement, loop):
        program, want = schedule.program, []
        spots = {name: (first, layout) for name, first, layout in placement.places}
        for count in (1, 2, 4):
            walks = list(schedule.walks)
            walks[loop] = (walks[loop][0], count)
            events = walked_events(program.arrays, program.loops, program.outputs, walks)
            if walked_late(events) is None and walked_judge(events, spots) == ("right",):
                want.append(count)
        told = lanes(schedule, placement, loop)
        self.assertEqual(told, tuple(want))
        return told


class ExamplesTest(unittest.TestCase):
    def test_example(self):
        self.assertEqual([rings(PLAIN, "B"), rings(STRIP, "T"), lanes(BACK, TIGHT, 0), lanes(BACK, TIGHT, 1)],
                         [(), (1, 2, 3, 4, 5, 6, 7, 8), (1, 2, 4), (1,)])


class InterfaceTest(unittest.TestCase):
    def test_files(self):
        for function, names in ((rings, ["schedule", "name"]), (lanes, ["schedule", "placement", "loop"])):
            self.assertTrue(inspect.isfunction(function))
            self.assertEqual(function.__module__, module.__name__)
            self.assertEqual(list(inspect.signature(function).parameters), names)

    def test_by_name(self):
        self.assertEqual(rings(name="T", schedule=STRIP), ALL)
        self.assertEqual(lanes(loop=1, placement=TIGHT, schedule=BACK), (1,))

    def test_kinds(self):
        for told in (rings(STRIP, "T"), lanes(BACK, TIGHT, 0)):
            self.assertIs(type(told), tuple)
            self.assertEqual({type(part) for part in told}, {int})

    def test_nothing_is_changed(self):
        schedule, placement = copy.deepcopy(FOUR), copy.deepcopy(TIGHT)
        before = repr([vars(schedule), vars(schedule.program), vars(placement)])
        rings(schedule, "B"), lanes(schedule, placement, 1)
        self.assertEqual(repr([vars(schedule), vars(schedule.program), vars(placement)]), before)


class RingsTest(Case):
    def test_recurrences(self):
        """As many elements as the lag are in use at a time, the first of them until the next one is written."""
        for lag in range(1, 9):
            for c in (1, -1):
                self.assertEqual(self.hold_rings(lagging(lag, c), "X"), tuple(range(lag, 9)))
        self.assertEqual(self.hold_rings(lagging(9, 1), "X"), ())

    def test_right_in_a_ring_and_not_in_a_greater_one(self):
        """In use are indices that are 2 or 4 apart, or 3 apart: no divisor of these will do."""
        self.assertEqual(self.hold_rings(lagging(3, 2), "X"), (3, 5, 6, 7, 8))
        self.assertEqual(self.hold_rings(lagging(2, 3), "X"), (2, 4, 5, 6, 7, 8))
        self.assertEqual(self.hold_rings(lagging(2, -3), "X"), (2, 4, 5, 6, 7, 8))

    def test_with_lanes(self):
        """A group reads all before it writes; but what it writes and then reads needs a cell for each of its iterations."""
        self.assertEqual(self.hold_rings(lagging(3, 1, 20, (), 2), "X"), (3, 4, 5, 6, 7, 8))
        self.assertEqual(self.hold_rings(lagging(4, 1, 21, (), 4), "X"), (4, 5, 6, 7, 8))
        self.assertEqual(self.hold_rings(lagging(5, 1, 21, (), 4), "X"), (5, 6, 7, 8))
        self.assertEqual(self.hold_rings(lagging(2, 3, 21, (), 2), "X"), (2, 4, 5, 6, 7, 8))
        reader = (11, (("X", 1, 0, ()), ("Y", 1, 0, (("X", 1, 0),))))
        for count, want in ((1, ALL), (2, ALL[1:]), (4, ALL[3:])):
            for direction in ("forward", "backward"):
                schedule = schedule_of((("X", 11), ("Y", 11)), (reader,), (), ((direction, count),))
                self.assertEqual(self.hold_rings(schedule, "X"), want)

    def test_outputs(self):
        self.assertEqual(self.hold_rings(schedule_of((("X", 8),), ((8, (("X", 1, 0, ()),)),), ("X",)), "X"), (8,))
        self.assertEqual(self.hold_rings(schedule_of((("X", 9),), ((9, (("X", 1, 0, ()),)),), ("X",)), "X"), ())
        self.assertEqual(self.hold_rings(schedule_of((("X", 1),), ((1, (("X", 0, 0, ()),)),), ("X",)), "X"), ALL)

    def test_rings_greater_than_the_array(self):
        for size in (1, 2, 3, 5):
            schedule = schedule_of((("X", size), ("Y", size)), ((size, (("Y", 1, 0, (("X", 1, 0),)),)),), ("Y",))
            self.assertEqual(self.hold_rings(schedule, "X"), tuple(range(size, 9)))
            self.assertEqual(self.hold_rings(schedule, "Y"), tuple(range(size, 9)))

    def test_inputs(self):
        """All elements of an input are written at the beginning; the last ones stay in a smaller ring."""
        reads = lambda *places: schedule_of((("X", 12), ("Y", 5)), ((5, (("Y", 1, 0, places),)),))
        self.assertEqual(self.hold_rings(reads(("X", 1, 0)), "X"), ())
        self.assertEqual(self.hold_rings(reads(("X", 1, 7)), "X"), (5, 6, 7, 8))
        self.assertEqual(self.hold_rings(reads(("X", 0, 11)), "X"), ALL)
        self.assertEqual(self.hold_rings(reads(("X", -2, 11)), "X"), ())
        self.assertEqual(self.hold_rings(reads(("X", 0, 8), ("X", 0, 11)), "X"), (4, 5, 6, 7, 8))

    def test_arrays_without_a_use(self):
        schedule = schedule_of((("X", 12), ("Y", 5), ("Z", 3)), ((5, (("Y", 1, 0, ()), ("X", 2, 0, ()))),))
        for name in "XYZ":
            self.assertEqual(self.hold_rings(schedule, name), ALL)

    def test_filled_from_both_ends_by_several_loops(self):
        both = (6, (("X", 1, 0, ()), ("X", -1, 17, ()), ("Y", 1, 0, (("X", 1, 0), ("X", -1, 17)))))
        rest = (6, (("X", 1, 6, (("X", 1, 0),)),))
        for loops in ((both,), (both, rest)):
            for walk in (("forward", 1), ("backward", 2), ("forward", 4)):
                schedule = schedule_of((("X", 18), ("Y", 6)), loops, (), (walk,) * len(loops))
                self.hold_rings(schedule, "X")


class LanesTest(Case):
    def test_lanes_that_need_two_or_four(self):
        """B lies one cell behind A, or three: with two lanes, or four, all of A that is spoiled was read in the group."""
        loops = ((8, (("B", 1, 0, (("A", 1, 0),)),)),)
        schedule = schedule_of((("A", 8), ("B", 8)), loops)
        places = lambda first: Placement(schedule.program, ("A", 0, "up"), ("B", first, "up"))
        self.assertEqual(self.hold_lanes(schedule, places(0), 0), (1, 2, 4))
        self.assertEqual(self.hold_lanes(schedule, places(1), 0), ())
        loops = ((2, (("B", 1, 0, (("A", 1, 0),)),)),)
        schedule = schedule_of((("A", 2), ("B", 2)), loops)
        self.assertEqual(self.hold_lanes(schedule, places(1), 0), (2, 4))
        loops = ((4, (("B", 1, 0, (("A", 1, 0),)),)),)
        schedule = schedule_of((("A", 4), ("B", 4)), loops)
        self.assertEqual(self.hold_lanes(schedule, places(1), 0), (4,))
        self.assertEqual(self.hold_lanes(schedule.with_walk(0, "backward", 2), places(1), 0), (1, 2, 4))
        loops = ((4, (("B", 1, 0, (("A", 1, 0),)), ("C", 1, 0, (("A", 1, 0),)))),)
        schedule = schedule_of((("A", 4), ("B", 4), ("C", 4)), loops)
        placement = Placement(schedule.program, ("A", 0, "up"), ("B", 9, "up"), ("C", 1, "up"))
        self.assertEqual(self.hold_lanes(schedule, placement, 0), (4,))

    def test_only_two(self):
        """With one lane B spoils A, with four B spoils itself in its ring."""
        loops = ((2, (("B", 1, 0, (("A", 1, 0),)),)), (3, (("B", 1, 2, ()), ("C", 1, 0, (("B", 1, 2),)))))
        schedule = schedule_of((("A", 2), ("B", 5), ("C", 3)), loops)
        placement = Placement(schedule.program, ("A", 0, "up"), ("B", 1, ("ring", 2)), ("C", 9, "up"))
        self.assertEqual(self.hold_lanes(schedule, placement, 0), (2, 4))
        self.assertEqual(self.hold_lanes(schedule, placement, 1), ())
        self.assertEqual(self.hold_lanes(schedule.with_walk(0, "forward", 4), placement, 1), (1, 2))

    def test_late_ones_are_left_out(self):
        schedule = lagging(3, 1)
        placement = Placement(schedule.program, ("X", 0, "up"))
        self.assertEqual(self.hold_lanes(schedule, placement, 1), (1, 2))
        self.assertEqual(self.hold_lanes(schedule, placement, 0), (1, 2, 4))
        self.assertEqual(self.hold_lanes(lagging(1, 2), Placement(lagging(1, 2).program, ("X", 0, "up")), 1), (1,))

    def test_the_placement_as_a_whole(self):
        """None if another loop makes it wrong, too; the lanes that the schedule has now do not matter."""
        wrong = TIGHT.moved(("B", 9))
        self.assertEqual(self.hold_lanes(BACK, wrong, 0), ())
        self.assertEqual(self.hold_lanes(BACK, wrong, 1), ())
        self.assertEqual(self.hold_lanes(BACK.with_walk(1, "forward", 4), TIGHT, 1), (1,))
        self.assertIs(is_right(BACK.with_walk(1, "forward", 4), TIGHT), False)

    def test_each_loop_and_direction(self):
        for walks in ((("forward", 4), ("backward", 2)), (("backward", 4), ("backward", 1)), (("backward", 2), ("forward", 1))):
            schedule = Schedule(PLAIN.program, walks)
            for first in range(0, 14):
                for loop in (0, 1):
                    self.hold_lanes(schedule, TIGHT.moved(("B", first)), loop)


if __name__ == "__main__":
    unittest.main()
