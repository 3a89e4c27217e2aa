"""Schedules: the examples, what is none, the order of events, Late."""

import copy
import unittest
from itertools import islice

from leastlap.errors import Late, NoSchedule
from leastlap.programs import Program
from leastlap.schedules import Schedule

from tests.samples import BACK, FOUR, JUNK, PLAIN, ROW, ROW_PARTS, TIGHT, deep_value, fault_of

CHAIN = Program((("A", 10), ("I", 3)), ((1, (("A", 1, 0, ()),)), (9, (("A", 1, 1, (("A", 1, 0), ("I", 0, 1))),))), ("A",))
NO = ("NoSchedule",)


class ExamplesTest(unittest.TestCase):
    def test_example(self):
        one, other = ("use", ((1, 1, 0), 2)), ("write", ((1, 0), 3))
        self.assertEqual([PLAIN.is_before(one, other), FOUR.is_before(one, other), BACK.walks],
                         [True, False, (("backward", 1), ("forward", 1))])


class InterfaceTest(unittest.TestCase):
    def test_attributes(self):
        schedule = Schedule(ROW, (("forward", 2), ("backward", 4)))
        self.assertEqual(schedule.program, ROW)
        self.assertEqual(schedule.walks, (("forward", 2), ("backward", 4)))
        self.assertEqual(Schedule(walks=(("forward", 1), ("forward", 1)), program=ROW), PLAIN)

    def test_plain(self):
        self.assertEqual(PLAIN.walks, (("forward", 1), ("forward", 1)))
        self.assertEqual(Schedule.plain(program=CHAIN).walks, (("forward", 1), ("forward", 1)))

    def test_with_walk(self):
        self.assertEqual(PLAIN.with_walk(direction="backward", lanes=4, loop=1).walks, (("forward", 1), ("backward", 4)))
        self.assertEqual(PLAIN.with_walk(0, "forward", 2).with_walk(1, "backward", 1).walks,
                         (("forward", 2), ("backward", 1)))
        self.assertEqual(BACK.with_walk(0, "forward", 1), PLAIN)
        self.assertEqual(fault_of(Schedule.plain(CHAIN).with_walk, 1, "backward", 1), ("Late", ((1, 0, 0), 8)))

    def test_defined_in_the_class_itself(self):
        for name in ("__init__", "__eq__", "plain", "with_walk", "text", "read", "events", "is_before"):
            self.assertIn(name, vars(Schedule))

    def test_equal(self):
        self.assertTrue(Schedule.plain(Program(*ROW_PARTS)) == PLAIN)
        self.assertFalse(Schedule.plain(Program(*ROW_PARTS)) != PLAIN)
        for other in (BACK, FOUR, Schedule.plain(CHAIN), Schedule.plain(Program(*ROW_PARTS[:2])), ROW, TIGHT, PLAIN.walks):
            self.assertTrue(PLAIN != other)
            self.assertFalse(PLAIN == other)
        for thing in JUNK:
            self.assertIs(BACK == thing, False)

    def test_nothing_is_changed(self):
        before = copy.deepcopy(vars(PLAIN))
        PLAIN.with_walk(0, "backward", 4)
        [PLAIN.text, list(PLAIN.events())]
        for walks in ([["forward", 1], ["forward", 1]], [("forward", 1), {"k": [1]}]):
            told = copy.deepcopy(walks)
            self.assertEqual(fault_of(Schedule, ROW, walks), NO)
            self.assertEqual(walks, told)
        self.assertEqual(vars(PLAIN), before)


class WrongWalksTest(unittest.TestCase):
    def no(self, *walks):
        for walk in walks:
            self.assertEqual(fault_of(Schedule, ROW, walk), NO, walk)

    def test_all_walks(self):
        for direction in ("forward", "backward"):
            for lanes in (1, 2, 4):
                self.assertIsNone(fault_of(Schedule, ROW, ((direction, lanes), ("forward", 1))))

    def test_number_of_walks(self):
        walk = ("forward", 1)
        self.no((), (walk,), (walk,) * 3, (walk,) * 4, walk)

    def test_kinds(self):
        walk = ("forward", 1)
        self.no([walk, walk], (list(walk), walk), (walk, ["forward", 1]), {walk: walk}, (walk, ("forward",)),
                (walk, ("forward", 1, 1)), (walk, (1, "forward")), (walk, ()), (walk, None), ("forward", 1), "forward")

    def test_directions_and_lanes(self):
        walk = ("forward", 1)
        for direction in ("Forward", "", "forwards", "up", None, True, 1, ("forward",), ["forward"], {}, ROW):
            self.no((walk, (direction, 1)), ((direction, 1), walk))
        for lanes in (0, 3, 5, 8, -1, True, False, None, "1", (1,), [1], 10 ** 39, ROW):
            self.no((walk, ("forward", lanes)), (("forward", lanes), walk))

    def test_any_value(self):
        self.no(*JUNK, deep_value(40), PLAIN, ROW.loops, TIGHT.places)

    def test_no_schedule_comes_ahead_of_late(self):
        self.assertEqual(fault_of(Schedule, CHAIN, (("forward", 3), ("backward", 1))), NO)
        self.assertEqual(fault_of(Schedule, CHAIN, (("forward", 1), ("backward", 1), ("forward", 1))), NO)
        with self.assertRaises(NoSchedule):
            Schedule(CHAIN, (("forward", 1), ("backward", True)))
        with self.assertRaises(Late):
            Schedule(CHAIN, (("forward", 1), ("backward", 1)))


class EventsTest(unittest.TestCase):
    SHORT = Program((("A", 2), ("B", 3), ("I", 1)), ((3, (("B", 1, 0, (("A", 0, 1), ("I", 0, 0))),)),), ("A", "B"))

    def test_forward(self):
        self.assertEqual(list(Schedule.plain(self.SHORT).events()), [
            ("write", ("A", 0)), ("write", ("A", 1)), ("write", ("I", 0)),
            ("use", ((0, 0, 0), 0)), ("use", ((0, 0, 1), 0)), ("write", ((0, 0), 0)),
            ("use", ((0, 0, 0), 1)), ("use", ((0, 0, 1), 1)), ("write", ((0, 0), 1)),
            ("use", ((0, 0, 0), 2)), ("use", ((0, 0, 1), 2)), ("write", ((0, 0), 2)),
            ("use", ("A", 0)), ("use", ("A", 1)), ("use", ("B", 0)), ("use", ("B", 1)), ("use", ("B", 2))])

    def test_backward_in_groups_of_two(self):
        self.assertEqual(list(Schedule(self.SHORT, (("backward", 2),)).events())[3:12], [
            ("use", ((0, 0, 0), 2)), ("use", ((0, 0, 1), 2)), ("use", ((0, 0, 0), 1)), ("use", ((0, 0, 1), 1)),
            ("write", ((0, 0), 2)), ("write", ((0, 0), 1)),
            ("use", ((0, 0, 0), 0)), ("use", ((0, 0, 1), 0)), ("write", ((0, 0), 0))])

    def test_groups_statement_by_statement(self):
        events = [event for event in FOUR.events() if isinstance(event[1][0], tuple) and event[1][0][0] == 1]
        self.assertEqual(events[:8], [("use", ((1, 0, 0), i)) for i in range(4)] + [("write", ((1, 0), i)) for i in range(4)])
        self.assertEqual(events[8:12], [("use", ((1, 1, 0), i)) for i in range(4)])
        self.assertEqual(events[-8:], [("use", ((1, 0, 0), 8)), ("use", ((1, 0, 0), 9)), ("write", ((1, 0), 8)),
                                       ("write", ((1, 0), 9)), ("use", ((1, 1, 0), 8)), ("use", ((1, 1, 0), 9)),
                                       ("write", ((1, 1), 8)), ("write", ((1, 1), 9))])

    def test_are_yielded_anew_each_time(self):
        self.assertEqual(list(PLAIN.events()), list(PLAIN.events()))
        self.assertEqual(list(islice(PLAIN.events(), 2)), [("write", ("A", 0)), ("write", ("A", 1))])

    def test_none_is_before_itself(self):
        for schedule in (PLAIN, BACK, FOUR):
            for event in schedule.events():
                self.assertIs(schedule.is_before(event, event), False)

    def test_all_pairs(self):
        schedule = Schedule(ROW, (("backward", 4), ("forward", 2)))
        events = list(schedule.events())
        for at, event in enumerate(events):
            for further, other in enumerate(events):
                self.assertIs(schedule.is_before(event=event, other=other), at < further)


class LateTest(unittest.TestCase):
    def test_backward(self):
        self.assertEqual(fault_of(Schedule, CHAIN, (("forward", 1), ("backward", 1))), ("Late", ((1, 0, 0), 8)))

    def test_in_a_group(self):
        self.assertEqual(fault_of(Schedule, CHAIN, (("forward", 1), ("forward", 2))), ("Late", ((1, 0, 0), 1)))
        self.assertEqual(fault_of(Schedule, CHAIN, (("forward", 4), ("forward", 4))), ("Late", ((1, 0, 0), 1)))

    def test_first_loop_may_go_as_it_likes(self):
        for direction in ("forward", "backward"):
            for lanes in (1, 2, 4):
                self.assertIsNone(fault_of(Schedule, CHAIN, ((direction, lanes), ("forward", 1))))

    def test_statement_ahead_in_one_iteration_is_never_late(self):
        program = Program((("A", 9), ("B", 9)), ((9, (("A", 1, 0, ()), ("B", 1, 0, (("A", 1, 0),)))),))
        for direction in ("forward", "backward"):
            for lanes in (1, 2, 4):
                self.assertIsNone(fault_of(Schedule, program, ((direction, lanes),)))

    def test_the_last_group_is_smaller(self):
        """Of five iterations with four lanes the last one is alone, so that only it reads what is written."""
        start = (4, (("A", 1, 0, ()),))
        for count, late in ((1, None), (4, None), (5, None), (8, None)):
            program = Program((("A", 12),), (start, (count, (("A", 1, 4, (("A", 1, 0),)),))))
            self.assertEqual(fault_of(Schedule, program, (("forward", 1), ("forward", 4))), late)
        program = Program((("A", 12),), (start, (5, (("A", 1, 4, (("A", 1, 1),)),))))
        self.assertEqual(fault_of(Schedule, program, (("forward", 1), ("forward", 4))), ("Late", ((1, 0, 0), 3)))
        self.assertIsNone(fault_of(Schedule, program, (("forward", 1), ("forward", 2))))

    def test_the_first_in_the_order_of_the_schedule(self):
        start = (2, (("A", 1, 0, ()), ("B", 1, 0, ())))
        main = (6, (("A", 1, 2, (("B", 1, 1), ("A", 1, 1))), ("B", 1, 2, (("A", 1, 0),))))
        program = Program((("A", 8), ("B", 8)), (start, main))
        self.assertEqual(fault_of(Schedule, program, (("forward", 1), ("forward", 2))), ("Late", ((1, 0, 0), 1)))
        self.assertEqual(fault_of(Schedule, program, (("forward", 1), ("backward", 1))), ("Late", ((1, 0, 0), 5)))
        main = (6, (("A", 1, 2, (("I", 1, 0), ("A", 1, 1))), ("B", 1, 2, (("A", 1, 0),))))
        program = Program((("A", 8), ("B", 8), ("I", 6)), (start, main))
        self.assertEqual(fault_of(Schedule, program, (("forward", 1), ("backward", 1))), ("Late", ((1, 0, 1), 5)))

    def test_the_first_loop_comes_first(self):
        start = (1, (("A", 1, 0, ()), ("B", 1, 0, ())))
        loops = (start, (3, (("A", 1, 1, (("A", 1, 0),)),)), (3, (("B", 1, 1, (("B", 1, 0),)),)))
        program = Program((("A", 4), ("B", 4)), loops)
        walks = [("forward", 1), ("forward", 1), ("forward", 1)]
        for at, want in ((1, ((1, 0, 0), 2)), (2, ((2, 0, 0), 2))):
            told = walks[:at] + [("backward", 1)] * (3 - at)
            self.assertEqual(fault_of(Schedule, program, tuple(told)), ("Late", want))


if __name__ == "__main__":
    unittest.main()
