"""finds, judge and is_right: the examples, and the edges that the document names."""

import copy
import inspect
import random
import unittest

from leastlap import judging, running
from leastlap.judging import is_right, judge
from leastlap.placements import Placement
from leastlap.running import finds

from tests.conflicts import walked_finds, walked_judge
from tests.samples import BACK, FOUR, PLAIN, ROW, TIGHT, schedule_of
from tests.walking import walked_events

RIGHT = ("right",)


class Case(unittest.TestCase):
    def hold(self, schedule, *places):
        """Hold what is told of a placement against the walk; return what judge tells."""
        program = schedule.program
        events = walked_events(program.arrays, program.loops, program.outputs, schedule.walks)
        spots = {name: (first, layout) for name, first, layout in places}
        placement = Placement(program, *places)
        told = judge(schedule, placement)
        self.assertEqual(told, walked_judge(events, spots))
        self.assertEqual(list(finds(schedule, placement)), walked_finds(events, spots))
        self.assertIs(is_right(schedule, placement), told == RIGHT)
        return told


class ExamplesTest(unittest.TestCase):
    def test_judge(self):
        self.assertEqual([judge(PLAIN, TIGHT), judge(BACK, TIGHT)],
                         [("wrong", ((0, 0, 1), 1), ("A", 2), ("B", 0)), ("right",)])
        self.assertEqual([judge(BACK, TIGHT.moved(("B", 9))), judge(FOUR, TIGHT.moved(("A", 30)))],
                         [("wrong", ((0, 0, 2), 8), ("A", 10), ("B", 9)), ("wrong", ((1, 1, 0), 4), ("B", 4), ("C", 14))])

    def test_is_right(self):
        self.assertIs(is_right(PLAIN, TIGHT), False)
        self.assertIs(is_right(BACK, TIGHT), True)
        self.assertIs(is_right(PLAIN, Placement.apart(ROW)), True)

    def test_finds(self):
        told = list(finds(PLAIN, TIGHT))
        self.assertEqual(len(told), 10 * 3 + 10 * 2 + 20)
        self.assertEqual(told[:5], [(((0, 0, 0), 0), ("A", 0), ("A", 0)), (((0, 0, 1), 0), ("A", 1), ("A", 1)),
                                    (((0, 0, 2), 0), ("A", 2), ("A", 2)), (((0, 0, 0), 1), ("A", 1), ("A", 1)),
                                    (((0, 0, 1), 1), ("A", 2), ("B", 0))])
        self.assertEqual(told[-1][:2], (("C", 19), ("C", 19)))
        self.assertTrue(all(element == found for _, element, found in finds(BACK, TIGHT)))


class InterfaceTest(unittest.TestCase):
    def test_files(self):
        for function, module in ((finds, running), (judge, judging), (is_right, judging)):
            self.assertTrue(inspect.isfunction(function))
            self.assertEqual(function.__module__, module.__name__)
            self.assertEqual(list(inspect.signature(function).parameters), ["schedule", "placement"])

    def test_by_name(self):
        self.assertEqual(judge(placement=TIGHT, schedule=BACK), RIGHT)
        self.assertIs(is_right(placement=TIGHT, schedule=BACK), True)
        self.assertEqual(list(finds(placement=TIGHT, schedule=BACK)), list(finds(BACK, TIGHT)))

    def test_yields_one_after_the_other(self):
        steps = finds(PLAIN, TIGHT)
        self.assertTrue(inspect.isgenerator(steps))
        self.assertEqual(next(steps), (((0, 0, 0), 0), ("A", 0), ("A", 0)))

    def test_kinds(self):
        wrong = judge(PLAIN, TIGHT)
        self.assertIs(type(wrong), tuple)
        self.assertEqual([type(part) for part in wrong], [str, tuple, tuple, tuple])
        self.assertEqual([type(part) for part in wrong[1]], [tuple, int])
        self.assertEqual([type(part) for part in wrong[2] + wrong[3]], [str, int, str, int])
        for told in finds(PLAIN, TIGHT):
            self.assertIs(type(told), tuple)

    def test_nothing_is_changed(self):
        schedule, placement = copy.deepcopy(FOUR), copy.deepcopy(TIGHT)
        before = repr([vars(schedule), vars(placement), vars(schedule.program)])
        judge(schedule, placement)
        is_right(schedule, placement)
        list(finds(schedule, placement))
        self.assertEqual(repr([vars(schedule), vars(placement), vars(schedule.program)]), before)
        self.assertTrue(schedule == FOUR and placement == TIGHT)


class EdgesTest(Case):
    def test_a_read_and_a_write_in_one_statement(self):
        """A statement reads before it writes, so that an array may be put exactly over the one that it is made from."""
        loops = ((9, (("B", 1, 0, (("A", 1, 0),)),)),)
        for walk in (("forward", 1), ("backward", 1), ("forward", 4), ("backward", 2)):
            schedule = schedule_of((("A", 9), ("B", 9)), loops, ("B",), (walk,))
            self.assertEqual(self.hold(schedule, ("A", 5, "up"), ("B", 5, "up")), RIGHT)
        forward = schedule_of((("A", 9), ("B", 9)), loops, ("B",))
        self.assertEqual(self.hold(forward, ("A", 5, "up"), ("B", 4, "up")), RIGHT)
        self.assertEqual(self.hold(forward, ("A", 5, "up"), ("B", 6, "up")), ("wrong", ((0, 0, 0), 1), ("A", 1), ("B", 0)))
        four = schedule_of((("A", 9), ("B", 9)), loops, ("B",), (("forward", 4),))
        self.assertEqual(self.hold(four, ("A", 5, "up"), ("B", 6, "up")), ("wrong", ((0, 0, 0), 4), ("A", 4), ("B", 3)))
        backward = schedule_of((("A", 9), ("B", 9)), loops, ("B",), (("backward", 1),))
        self.assertEqual(self.hold(backward, ("A", 5, "up"), ("B", 6, "up")), RIGHT)
        self.assertEqual(self.hold(backward, ("A", 5, "up"), ("B", 4, "up")), ("wrong", ((0, 0, 0), 7), ("A", 7), ("B", 8)))

    def test_last_groups_that_are_smaller(self):
        for count in range(1, 10):
            loops = ((count, (("B", 1, 0, (("A", 1, 0),)), ("C", 1, 0, (("A", 1, 0), ("B", 1, 0))))),)
            arrays = (("A", count), ("B", count), ("C", count))
            for direction in ("forward", "backward"):
                for lanes in (1, 2, 4):
                    schedule = schedule_of(arrays, loops, ("C",), ((direction, lanes),))
                    for first in range(6, 15):
                        self.hold(schedule, ("A", 10, "up"), ("B", first, "up"), ("C", 40, "up"))
                        self.hold(schedule, ("A", 10, "up"), ("B", 40, "up"), ("C", first, "up"))
                        self.hold(schedule, ("A", 10, "up"), ("B", 40, "up"), ("C", first + 8, "down"))

    def test_loops_of_one_iteration(self):
        loops = ((1, (("B", 0, 3, (("A", 3, 1), ("A", -3, 2))),)), (1, (("B", -3, 4, (("B", 0, 3), ("A", 2, 1))),)))
        schedule = schedule_of((("A", 4), ("B", 6)), loops, (), (("backward", 4), ("forward", 2)))
        seen = {self.hold(schedule, ("A", 20, "up"), ("B", first, layout))[0]
                for first in range(10, 30) for layout in ("up", "down", ("ring", 1), ("ring", 3), ("ring", 8))}
        self.assertEqual(seen, {"right", "wrong"})
        self.assertEqual(self.hold(schedule, ("A", 20, ("ring", 1)), ("B", 9, "up")),
                         ("wrong", ((0, 0, 0), 0), ("A", 1), ("A", 3)))

    def test_steps_of_none_and_three(self):
        for c in range(-3, 4):
            for k in (-3, -1, 2, 3):
                d, e = (0 if c >= 0 else -c * 6), (0 if k > 0 else -k * 6)
                loops = ((7, (("B", k, e, (("A", c, d),)),)),)
                for walk in (("forward", 1), ("backward", 4)):
                    schedule = schedule_of((("A", 19), ("B", 19)), loops, (), (walk,))
                    for first in range(0, 40, 3):
                        self.hold(schedule, ("A", 20, "up"), ("B", first, "up"))
                        self.hold(schedule, ("A", 20, "down"), ("B", first, "up"))
                        self.hold(schedule, ("A", 20, "up"), ("B", 18 + first, "down"))

    def test_single_elements(self):
        loops = ((5, (("B", 1, 0, (("A", 0, 0),)),)), (1, (("C", 0, 0, (("B", 0, 4),)),)))
        schedule = schedule_of((("A", 1), ("B", 5), ("C", 1)), loops, ("C",))
        self.assertEqual(self.hold(schedule, ("A", 4, "up"), ("B", 0, "up"), ("C", 4, "down")), RIGHT)
        self.assertEqual(self.hold(schedule, ("A", 3, "up"), ("B", 0, "up"), ("C", 4, "up")),
                         ("wrong", ((0, 0, 0), 4), ("A", 0), ("B", 3)))

    def test_filled_from_both_ends_by_several_loops(self):
        up, down, middle = ("B", 1, 0, (("A", 1, 0),)), ("B", -1, 11, (("A", -1, 11),)), ("B", 1, 4, (("A", 1, 4),))
        for loops in (((4, (up, down)), (4, (middle,))), ((4, (middle, up, down)),), ((4, (up,)), (4, (down, middle)))):
            for lanes in (1, 2, 4):
                schedule = schedule_of((("A", 12), ("B", 12)), loops, ("B",), (("forward", lanes),) * len(loops))
                seen = set()
                for first in range(0, 30):
                    seen.add(self.hold(schedule, ("A", 14, "up"), ("B", first, "up"))[0])
                    seen.add(self.hold(schedule, ("A", 14, "down"), ("B", first, "up"))[0])
                self.assertEqual(seen, {"right", "wrong"})

    def test_reads_of_what_the_own_loop_wrote(self):
        """X[i + 2] is made from X[i], and Y[i] from it in the same iteration; each time two elements of X are in use."""
        loops = ((2, (("X", 1, 0, ()),)), (9, (("X", 1, 2, (("X", 1, 0),)), ("Y", 1, 0, (("X", 1, 2),)))))
        schedule = schedule_of((("X", 11), ("Y", 9)), loops, ("Y",))
        self.assertEqual(self.hold(schedule, ("X", 0, "up"), ("Y", 0, "up")), RIGHT)
        self.assertEqual(self.hold(schedule, ("X", 0, "up"), ("Y", 1, "up")), ("wrong", ((1, 0, 0), 1), ("X", 1), ("Y", 0)))
        self.assertEqual(self.hold(schedule, ("X", 0, ("ring", 2)), ("Y", 2, "up")), RIGHT)
        self.assertEqual(self.hold(schedule, ("X", 0, ("ring", 1)), ("Y", 2, "up")),
                         ("wrong", ((1, 0, 0), 0), ("X", 0), ("X", 1)))
        # In a ring of 2, X[i + 1] stays in use behind the write of Y[i], and the beginning of Y is used at the end.
        self.assertEqual(self.hold(schedule, ("X", 0, ("ring", 2)), ("Y", 1, "up"))[0], "wrong")
        # With two lanes, X[i] and X[i + 1] are read before X[i + 2] and X[i + 3] are written.
        two = schedule.with_walk(1, "forward", 2)
        self.assertEqual(self.hold(two, ("X", 0, ("ring", 2)), ("Y", 2, "up")), RIGHT)

    def test_inputs_over_inputs(self):
        """Inputs are written ascending by their names, each one by its indices, before anything is used."""
        loops = ((4, (("C", 1, 0, (("A", 1, 0), ("B", 1, 0))),)),)
        schedule = schedule_of((("A", 4), ("B", 4), ("C", 4)), loops)
        self.assertEqual(self.hold(schedule, ("A", 0, "up"), ("B", 3, "up"), ("C", 9, "up")),
                         ("wrong", ((0, 0, 0), 3), ("A", 3), ("B", 0)))
        self.assertEqual(self.hold(schedule, ("A", 0, "up"), ("B", 4, "up"), ("C", 9, "up")), RIGHT)
        self.assertEqual(self.hold(schedule, ("A", 0, "up"), ("B", 3, "down"), ("C", 9, "up")),
                         ("wrong", ((0, 0, 0), 0), ("A", 0), ("B", 3)))
        self.assertEqual(self.hold(schedule, ("A", 0, ("ring", 3)), ("B", 3, "up"), ("C", 9, "up")),
                         ("wrong", ((0, 0, 0), 0), ("A", 0), ("A", 3)))
        only = schedule_of((("A", 4), ("B", 4), ("C", 4)), ((4, (("C", 1, 0, (("B", 1, 0),)),)),))
        self.assertEqual(self.hold(only, ("A", 0, "up"), ("B", 3, "up"), ("C", 9, "up")), RIGHT)

    def test_outputs_that_are_lost_at_the_end(self):
        """The last loop writes over what is used only at the end; outputs are used ascending."""
        loops = ((4, (("A", 1, 0, ()), ("B", 1, 0, ()))), (4, (("C", 1, 0, ()),)))
        schedule = schedule_of((("A", 4), ("B", 4), ("C", 4)), loops, ("A", "C"))
        self.assertEqual(self.hold(schedule, ("A", 8, "up"), ("B", 4, "up"), ("C", 4, "up")), RIGHT)
        self.assertEqual(self.hold(schedule, ("A", 8, "up"), ("B", 0, "up"), ("C", 5, "up")),
                         ("wrong", ("A", 0), ("A", 0), ("C", 3)))
        self.assertEqual(self.hold(schedule, ("A", 8, "up"), ("B", 0, "up"), ("C", 11, "up")),
                         ("wrong", ("A", 3), ("A", 3), ("C", 0)))
        self.assertEqual(self.hold(schedule, ("A", 8, "up"), ("B", 7, "up"), ("C", 20, ("ring", 4))),
                         ("wrong", ("A", 0), ("A", 0), ("B", 1)))
        self.assertEqual(self.hold(schedule, ("A", 8, "up"), ("B", 9, "up"), ("C", 20, ("ring", 3))),
                         ("wrong", ("C", 0), ("C", 0), ("C", 3)))

    def test_inputs_that_are_outputs(self):
        loops = ((3, (("B", 1, 0, (("A", 1, 0),)),)),)
        schedule = schedule_of((("A", 3), ("B", 3)), loops, ("A",))
        self.assertEqual(self.hold(schedule, ("A", 1, "up"), ("B", 0, "up")), ("wrong", ("A", 0), ("A", 0), ("B", 1)))
        self.assertEqual(self.hold(schedule, ("A", 1, "up"), ("B", 3, "up"))[:2], ("wrong", ((0, 0, 0), 2)))
        self.assertEqual(self.hold(schedule, ("A", 1, "up"), ("B", 4, "up")), RIGHT)

    def test_arrays_without_a_use(self):
        loops = ((6, (("B", 1, 0, ()), ("C", 2, 0, (("A", 1, 0),)))),)
        schedule = schedule_of((("A", 6), ("B", 6), ("C", 12), ("D", 5)), loops)
        apart = ("C", 40, "up"), ("D", 60, "up")
        self.assertEqual(self.hold(schedule, ("A", 0, "up"), ("B", 0, "up"), *apart),
                         ("wrong", ((0, 1, 0), 0), ("A", 0), ("B", 0)))
        self.assertEqual(self.hold(schedule, ("A", 1, "up"), ("B", 0, "up"), *apart), RIGHT)
        self.assertEqual(self.hold(schedule, ("A", 0, "up"), ("B", 9, ("ring", 1)), ("C", 9, ("ring", 2)), ("D", 9, "up")),
                         RIGHT)
        self.assertEqual(self.hold(schedule, ("A", 0, "up"), ("B", 40, "up"), ("C", 60, "up"), ("D", 3, "up")),
                         ("wrong", ((0, 1, 0), 3), ("A", 3), ("D", 0)))

    def test_rings_of_one_of_eight_and_beyond_the_array(self):
        loops = ((12, (("B", 1, 0, (("A", 1, 0),)), ("C", -1, 11, (("B", 1, 0),)))),)
        arrays = (("A", 12), ("B", 12), ("C", 12))
        for lanes in (1, 2, 4):
            schedule = schedule_of(arrays, loops, ("C",), (("forward", lanes),))
            for m in range(1, 9):
                told = self.hold(schedule, ("A", 0, "up"), ("B", 40, ("ring", m)), ("C", 20, "up"))
                self.assertEqual(told == RIGHT, m >= lanes)
                for first in range(0, 14):
                    self.hold(schedule, ("A", 6, "up"), ("B", first, ("ring", m)), ("C", 25, "down"))
        small = schedule_of((("A", 3), ("B", 3)), ((3, (("B", 1, 0, (("A", 1, 0),)),)),), ("B",))
        for m in range(3, 9):
            for first in range(0, 12):
                self.hold(small, ("A", 5, ("ring", m)), ("B", first, ("ring", 11 - m)))
                self.hold(small, ("A", 5, ("ring", m)), ("B", first, "up"))

    def test_rings_over_rings(self):
        rng = random.Random(50)
        loops = ((11, (("X", 1, 0, (("A", -1, 10),)), ("Y", -2, 20, (("X", 1, 0),)), ("Z", 1, 0, (("Y", -2, 20), ("A", 1, 0))))),)
        seen = set()
        for walk in (("forward", 1), ("forward", 2), ("backward", 4)):
            schedule = schedule_of((("A", 11), ("X", 11), ("Y", 21), ("Z", 11)), loops, ("Z",), (walk,))
            for _ in range(150):
                rings = [("ring", rng.randint(1, 8)) for _ in range(2)]
                seen.add(self.hold(schedule, ("A", 0, "up"), ("X", rng.randint(0, 18), rings[0]),
                                   ("Y", rng.randint(11, 18), rings[1]), ("Z", 30, "up"))[0])
        self.assertEqual(seen, {"right", "wrong"})

    def test_placements_far_away(self):
        far = 10 ** 30 - 30
        for first in (9, 10, 11, 12):
            told = judge(BACK, Placement(ROW, ("C", far, "up"), ("A", far + 8, "up"), ("B", far + first, "up")))
            self.assertEqual(told, judge(BACK, TIGHT.moved(("B", first))))
        self.assertEqual(judge(PLAIN, Placement(ROW, ("C", far, "up"), ("A", 10 ** 20, "down"), ("B", 8, ("ring", 8))))[:2],
                         ("wrong", ((1, 0, 0), 0)))
        self.assertEqual(judge(PLAIN, Placement(ROW, ("C", far, "up"), ("A", 10 ** 20, "down"), ("B", 0, "up"))), RIGHT)

    def test_a_third_element_is_found(self):
        """The element whose use is wrong first was overwritten first by another one than the one that it finds."""
        loops = ((3, (("B", 1, 0, ()),)), (3, (("C", 1, 0, ()),)), (1, (("D", 0, 0, (("A", 0, 1),)),)))
        schedule = schedule_of((("A", 3), ("B", 3), ("C", 3), ("D", 1)), loops)
        self.assertEqual(self.hold(schedule, ("A", 0, "up"), ("B", 1, "up"), ("C", 3, "down"), ("D", 9, "up")),
                         ("wrong", ((2, 0, 0), 0), ("A", 1), ("C", 2)))
        self.assertEqual(self.hold(schedule, ("A", 0, "up"), ("B", 0, ("ring", 2)), ("C", 9, "up"), ("D", 1, "up")),
                         ("wrong", ((2, 0, 0), 0), ("A", 1), ("B", 1)))
        self.assertEqual(self.hold(schedule, ("A", 0, "up"), ("B", 0, "up"), ("C", 0, ("ring", 2)), ("D", 9, "up")),
                         ("wrong", ((2, 0, 0), 0), ("A", 1), ("C", 1)))

    def test_the_first_use_in_the_order_of_the_schedule(self):
        """In a group, all of a statement's reads come before those of the statements behind it."""
        reads = (("A", 1, 4), ("A", 1, 0))
        loops = ((8, (("B", 1, 0, ()), ("C", 1, 0, reads), ("D", 1, 0, reads[1:]))),)
        arrays = (("A", 12), ("B", 8), ("C", 8), ("D", 8))
        apart = ("C", 40, "up"), ("D", 60, "up")
        for walk, first, want in ((("forward", 1), 0, ((0, 1, 1), 0)), (("forward", 1), 3, ((0, 1, 1), 3)),
                                  (("forward", 1), 4, ((0, 1, 0), 0)), (("forward", 4), 7, ((0, 1, 0), 3)),
                                  (("backward", 1), 4, ((0, 1, 0), 7)), (("backward", 2), 1, ((0, 1, 1), 7))):
            schedule = schedule_of(arrays, loops, (), (walk,))
            told = self.hold(schedule, ("A", 10, "up"), ("B", 10 + first, "up"), *apart)
            self.assertEqual(told[1], want, (walk, first))


if __name__ == "__main__":
    unittest.main()
