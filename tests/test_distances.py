"""Distances: the examples, the interface, and the edges that the document names."""

import copy
import unittest

from leastlap.distances import Distances
from leastlap.programs import Program
from leastlap.schedules import Schedule

from tests.conflicts import all_conflicts, bad_distances
from tests.covers import CoverReader
from tests.longs import placed, wedge_loops
from tests.samples import BACK, FIRST, FOUR, JUNK, PLAIN, ROW_PARTS, STRIP_PARTS, THEN, TIGHT, schedule_of
from tests.walking import walked_events

STRIP = Schedule.plain(Program(*STRIP_PARTS))
NEAR, FAR = Distances(PLAIN, "B", "up", "A", "up"), Distances(PLAIN, "B", "up", "C", "up")
GAPS = Distances(STRIP, "T", "up", "X", "up")
LAYOUTS = ("up", "down", ("ring", 1), ("ring", 3), ("ring", 8))


def bad_of(distances, low, high):
    return [distance for distance in range(low, high + 1) if not distances.is_good(distance)]


class Case(unittest.TestCase):
    def hold(self, schedule, one, layout, other, other_layout):
        """Hold all of a Distances against the list of all conflicts; return the bad distances, ascending."""
        program = schedule.program
        conflicts = all_conflicts(walked_events(program.arrays, program.loops, program.outputs, schedule.walks))
        bad = sorted(bad_distances(conflicts, one, layout, other, other_layout))
        distances = Distances(schedule, one, layout, other, other_layout)
        low, high = (bad[0], bad[-1]) if bad else (0, 0)
        self.assertEqual(bad_of(distances, low - 9, high + 9), bad)
        self.assertEqual((distances.least_bad, distances.greatest_bad), (low, high) if bad else (None, None))
        for start in (low - 3, low, low + 1, high - 1, high, high + 2):
            self.assertEqual(distances.next_good(start), next(k for k in range(start, high + 5) if k not in bad))
            self.assertEqual(distances.next_good(start, step=-1),
                             next(k for k in range(start, low - 5, -1) if k not in bad))
        for least, most in ((low, high), (low - 5, low), (high, high), (low + 1, high + 3)):
            if least <= most:
                self.assertEqual(distances.count_bad(least, most), len([k for k in bad if least <= k <= most]))
            self.hold_parted(distances, min(least, most), max(least, most), bad)
        return bad

    def hold_parted(self, distances, low, high, bad):
        reader = CoverReader(distances.schedule, distances.one, distances.layout, distances.other, distances.other_layout)
        modulus, rows = reader.parted(distances, low, high)
        for rest, row in enumerate(rows):
            for least, most, families in row:
                if families is None:
                    self.assertFalse([k for k in bad if least <= k <= most and k % modulus == rest])


class ExamplesTest(Case):
    def test_ends_and_next_ones(self):
        self.assertEqual([NEAR.least_bad, NEAR.greatest_bad, FAR.least_bad, FAR.greatest_bad, NEAR.is_good(0),
                          NEAR.next_good(1), NEAR.next_good(1, step=-1)], [1, 11, -9, 9, True, 12, 0])

    def test_counts_and_first_unlike(self):
        self.assertEqual([NEAR.count_bad(-5, 5), NEAR.first_unlike(FAR),
                          Distances(BACK, "B", "up", "A", "up").greatest_bad], [5, (0, False), 1])

    def test_gaps(self):
        self.assertEqual(STRIP.program, Program((("A", 5), ("T", 6), ("X", 16), ("Z", 5)), (FIRST, THEN), ("Z",)))
        self.assertEqual([bad_of(GAPS, -3, 11), GAPS.count_bad(1, 10)], [[0, 2, 4, 6, 8], 4])

    def test_parted(self):
        for distances in (NEAR, FAR, GAPS, Distances(FOUR, "B", "up", "C", "up")):
            bad = bad_of(distances, -40, 40)
            for low, high in ((-40, 40), (0, 8), (1, 11), (-9, 9), (3, 3), (5, 7), (-40, -20), (2, 10 ** 30), (-10 ** 30, 3)):
                self.hold_parted(distances, low, high, bad)


class InterfaceTest(Case):
    def test_attributes(self):
        told = Distances(BACK, "C", ("ring", 3), "A", "down")
        self.assertEqual((told.schedule, told.one, told.layout, told.other, told.other_layout),
                         (BACK, "C", ("ring", 3), "A", "down"))

    def test_by_name(self):
        told = Distances(other_layout="down", other="A", layout=("ring", 3), one="C", schedule=BACK)
        self.assertEqual(told, Distances(BACK, "C", ("ring", 3), "A", "down"))
        self.assertIs(NEAR.is_good(distance=1), False)
        self.assertEqual(NEAR.next_good(start=1, step=1), 12)
        self.assertEqual(NEAR.count_bad(high=5, low=-5), 5)
        self.assertEqual(NEAR.first_unlike(others=FAR), (0, False))
        self.assertEqual(NEAR.parted(high=3, low=0), NEAR.parted(0, 3))

    def test_step_by_name_only(self):
        with self.assertRaises(TypeError):
            NEAR.next_good(1, -1)

    def test_defined_in_the_class_itself(self):
        for name in ("__init__", "__eq__", "least_bad", "greatest_bad", "is_good", "next_good", "count_bad", "first_unlike",
                     "parted"):
            self.assertIn(name, vars(Distances))
        self.assertEqual(Distances.__module__, "leastlap.distances")

    def test_equal(self):
        same = Distances(Schedule.plain(Program(*ROW_PARTS)), "B", "up", "A", "up")
        self.assertTrue(same == NEAR)
        self.assertFalse(same != NEAR)
        self.assertTrue(Distances(PLAIN, "B", ("ring", 2), "A", "up") == Distances(PLAIN, "B", ("ring", 2), "A", "up"))
        for other in (FAR, GAPS, Distances(BACK, "B", "up", "A", "up"), Distances(PLAIN, "B", "down", "A", "up"),
                      Distances(PLAIN, "B", "up", "A", "down"), Distances(PLAIN, "A", "up", "B", "up"),
                      Distances(PLAIN, "C", "up", "A", "up"), Distances(PLAIN, "B", ("ring", 2), "A", "up"),
                      Distances(Schedule.plain(Program(*ROW_PARTS[:2])), "B", "up", "A", "up"), PLAIN, TIGHT, *JUNK):
            self.assertIs(NEAR == other, False)
            self.assertIs(NEAR != other, True)

    def test_kinds(self):
        self.assertIs(type(NEAR.least_bad), int)
        self.assertIs(type(NEAR.greatest_bad), int)
        self.assertIs(NEAR.is_good(0), True)
        self.assertIs(type(NEAR.count_bad(0, 3)), int)
        self.assertIs(type(NEAR.first_unlike(FAR)), tuple)
        self.assertEqual([type(part) for part in NEAR.first_unlike(FAR)], [int, bool])

    def test_nothing_is_changed(self):
        schedule = copy.deepcopy(FOUR)
        before = repr([vars(schedule), vars(schedule.program)])
        distances = Distances(schedule, "B", "up", "C", "down")
        told = repr([vars(distances), distances.parted(-50, 50)])
        distances.next_good(0), distances.count_bad(-9, 9), distances.first_unlike(NEAR), NEAR.first_unlike(distances)
        distances.parted(-3, 3), distances.parted(-10 ** 30, 10 ** 30), distances.is_good(3)
        self.assertEqual(repr([vars(distances), distances.parted(-50, 50)]), told)
        self.assertEqual(repr([vars(schedule), vars(schedule.program)]), before)


class EdgesTest(Case):
    def test_names_in_any_order(self):
        """The other way round, each distance has the other sign."""
        for schedule, names in ((PLAIN, "ABC"), (FOUR, "ABC"), (STRIP, "ATXZ")):
            for one in names:
                for other in names:
                    if one != other:
                        bad = self.hold(schedule, one, "up", other, "down")
                        self.assertEqual(self.hold(schedule, other, "down", one, "up"), [-k for k in reversed(bad)])

    def test_all_layouts(self):
        for schedule, names in ((PLAIN, ("B", "C")), (BACK, ("B", "A")), (FOUR, ("C", "B")), (STRIP, ("T", "X")),
                                (STRIP, ("X", "Z"))):
            for layout in LAYOUTS:
                for other_layout in LAYOUTS:
                    self.hold(schedule, names[0], layout, names[1], other_layout)

    def test_no_bad_distances(self):
        """A is written ahead of B, and never used behind a write of B; so no element of one spoils one of the other."""
        schedule = schedule_of((("A", 4), ("B", 4), ("C", 4)), ((4, (("C", 1, 0, (("A", 1, 0),)),)), (4, (("B", 1, 0, ()),))))
        for layout in LAYOUTS:
            self.assertEqual(self.hold(schedule, "A", layout, "B", "up"), [])
        none = Distances(schedule, "B", "up", "A", "up")
        self.assertEqual([none.least_bad, none.greatest_bad, none.next_good(7), none.next_good(-7, step=-1)],
                         [None, None, 7, -7])
        self.assertEqual([none.count_bad(-9, 9), none.first_unlike(none)], [0, None])
        self.assertEqual(none.first_unlike(Distances(schedule, "A", "up", "B", "down")), None)
        modulus, rows = none.parted(-5, 5)
        for row in rows:
            self.assertEqual([families for _, _, families in row], [None] * len(row))

    def test_gaps_at_both_ends(self):
        """Bad is 2 j - 3 i for j and i from 0 to 19: all from -57 to 38, but for the second one from each end."""
        loops = ((20, (("A", 2, 0, ()),)), (20, (("B", 3, 0, ()),)), (20, (("C", 1, 0, (("A", 2, 0),)),)))
        schedule = schedule_of((("A", 40), ("B", 60), ("C", 20)), loops)
        for walk in (("forward", 1), ("backward", 4)):
            changed = schedule.with_walk(1, *walk)
            want = [k for k in range(-57, 39) if k not in (-56, 37)]
            self.assertEqual(self.hold(changed, "B", "up", "A", "up"), want)
            self.assertEqual(self.hold(changed, "A", "up", "B", "up"), [-k for k in reversed(want)])

    def test_gaps_all_along(self):
        """Bad are all multiples of 3 only, or all odd numbers only."""
        loops = ((9, (("A", 3, 0, ()),)), (9, (("B", 3, 0, ()),)), (9, (("C", 1, 0, (("A", 3, 0),)),)))
        schedule = schedule_of((("A", 27), ("B", 27), ("C", 9)), loops)
        self.assertEqual(self.hold(schedule, "B", "up", "A", "up"), list(range(-24, 25, 3)))
        loops = ((9, (("A", 2, 1, ()),)), (9, (("B", 2, 0, ()),)), (9, (("C", 1, 0, (("A", 2, 1),)),)))
        schedule = schedule_of((("A", 19), ("B", 18), ("C", 9)), loops)
        self.assertEqual(self.hold(schedule, "B", "up", "A", "up"), list(range(-15, 18, 2)))
        self.assertEqual(self.hold(schedule, "B", "up", "A", "down"), list(range(-33, 0, 2)))

    def test_single_elements_and_steps_of_none(self):
        loops = ((1, (("A", 0, 2, ()),)), (7, (("B", -3, 18, (("A", 0, 2),)),)), (1, (("C", 3, 1, (("A", -3, 2),)),)))
        schedule = schedule_of((("A", 3), ("B", 19), ("C", 2)), loops)
        self.assertEqual(self.hold(schedule, "B", "up", "A", "up"), list(range(-16, 3, 3)))
        self.assertEqual(self.hold(schedule, "A", "down", "B", ("ring", 4)), [2, 3, 4, 5])
        self.assertEqual(self.hold(schedule, "A", "up", "C", "up"), [])
        shorter = schedule_of((("A", 3), ("B", 19)), loops[:2])
        self.assertEqual(self.hold(shorter, "B", "up", "A", "up"), list(range(-16, 0, 3)))

    def test_inputs_and_outputs(self):
        """Of two inputs that are used, only the one that is written first is spoiled by the other one."""
        schedule = schedule_of((("A", 5), ("B", 4), ("C", 5)), ((5, (("C", 1, 0, (("A", 1, 0),)),)),), ("A", "B"))
        self.assertEqual(self.hold(schedule, "A", "up", "B", "up"), list(range(-4, 4)))
        self.assertEqual(self.hold(schedule, "C", "up", "B", "up"), list(range(-4, 4)))
        self.assertEqual(self.hold(schedule, "C", "up", "A", "up"), list(range(-4, 5)))
        schedule = schedule_of((("A", 5), ("B", 4), ("C", 5)), ((5, (("C", 1, 0, (("A", 1, 0),)),)),), ("B",))
        self.assertEqual(self.hold(schedule, "C", "up", "A", "up"), list(range(1, 5)))

    def test_recurrences_with_lanes(self):
        """Windows of few iterations that move along: with all strides, lanes and directions."""
        for c in (-3, -2, -1, 1, 2, 3):
            for k in (-3, -1, 1, 2):
                low, base = (-c * 13 if c < 0 else 0), (-k * 13 if k < 0 else 0)
                start = (3, (("X", c, low, ()),))
                main = (11, (("X", c, low + 3 * c, (("X", c, low),)), ("Y", k, base, (("X", c, low + c),))))
                schedule = schedule_of((("X", 40), ("Y", 40)), (start, main), ())
                for walk in (("forward", 1), ("forward", 2)):
                    changed = schedule.with_walk(1, *walk)
                    for layouts in (("up", "up"), ("up", "down"), (("ring", 7), "up"), ("down", ("ring", 4))):
                        self.hold(changed, "X", layouts[0], "Y", layouts[1])

    def test_what_is_between_gets_more_or_less(self):
        """Columns of distances that move along while they grow or shrink; the first of them may not touch the next one."""
        for wide, step, ahead in ((2, 1, 0), (3, 1, 0), (3, 2, 0), (2, 0, 0), (1, 2, 20), (1, 3, 40), (2, 3, 20)):
            for c in (-3, -2, -1, 1, 2, 3):
                arrays, loops = placed(wedge_loops(20, wide, step, c, ahead))
                schedule = schedule_of(arrays, loops)
                self.hold(schedule, "X", "up", "Y", "up")
                self.hold(schedule.with_walk(len(loops) - 1, "forward", 2), "Y", "down", "X", "up")
                self.hold(schedule.with_walk(len(loops) - 1, "forward", 4), "Y", ("ring", 3), "X", "down")
                self.hold(schedule, "X", ("ring", 5), "Y", "up")

    def test_few_rows(self):
        """No more residues are told than are needed."""
        for distances, modulus in ((NEAR, 1), (FAR, 1), (GAPS, 2)):
            self.assertEqual(distances.parted(-20, 20)[0], modulus)

    def test_distances_far_away(self):
        far = 10 ** 30 - 1
        for distances in (NEAR, FAR, GAPS):
            self.assertIs(distances.is_good(far), True)
            self.assertIs(distances.is_good(-far), True)
            self.assertEqual([distances.next_good(far), distances.next_good(-far, step=-1)], [far, -far])
            self.assertEqual(distances.count_bad(-far, far), len(bad_of(distances, -50, 50)))
            self.assertEqual(distances.count_bad(far - 5, far), 0)
            self.hold_parted(distances, far - 1, far, [])
            self.hold_parted(distances, -far, far, bad_of(distances, -50, 50))

    def test_ends_of_the_bad_ones_and_their_gaps(self):
        self.assertEqual([GAPS.next_good(k) for k in (-1, 0, 1, 2, 7, 8, 9)], [-1, 1, 1, 3, 7, 9, 9])
        self.assertEqual([GAPS.next_good(k, step=-1) for k in (-1, 0, 1, 2, 7, 8, 9)], [-1, -1, 1, 1, 7, 7, 9])
        self.assertEqual([FAR.next_good(k, step=-1) for k in (-10, -9, 9, 10)], [-10, -10, -10, 10])
        self.assertEqual([GAPS.count_bad(k, k) for k in (-1, 0, 1, 8, 9)], [0, 1, 0, 1, 0])

    def test_intervals_of_one_number(self):
        for distances in (NEAR, FAR, GAPS):
            for k in range(-11, 13):
                self.assertEqual(distances.count_bad(k, k), 0 if distances.is_good(k) else 1)
                modulus, rows = distances.parted(k, k)
                self.assertEqual([(row[0][:2], len(row)) for row in rows], [((k, k), 1)] * modulus)
                self.assertEqual([row[0][2] is None for rest, row in enumerate(rows) if rest == k % modulus],
                                 [distances.is_good(k)])
                self.hold_parted(distances, k, k, bad_of(distances, k, k))


class FirstUnlikeTest(Case):
    def test_order(self):
        """Of the distances that are bad for only one of two, the one nearest to 0 is told, ahead of its opposite."""
        sets = {}
        for size in (1, 2, 3, 4, 5):
            loops = ((size, (("A", 1, 0, ()),)), (1, (("B", 1, 0, ()),)), (size, (("C", 1, 0, (("A", 1, 0),)),)))
            schedule = schedule_of((("A", 6), ("B", 1), ("C", 6)), loops)
            sets[size] = [Distances(schedule, "B", "up", "A", "up"), Distances(schedule, "A", "up", "B", "up"),
                          Distances(schedule, "B", "up", "A", "down")]
            self.assertEqual(bad_of(sets[size][0], -9, 9), list(range(size)))
        for size in sets:
            for other in sets:
                for at, mine in enumerate(sets[size]):
                    for spot, its in enumerate(sets[other]):
                        bad, others = set(bad_of(mine, -9, 9)), set(bad_of(its, -9, 9))
                        first = min(bad ^ others, key=lambda k: (abs(k), k < 0), default=None)
                        self.assertEqual(mine.first_unlike(its), None if first is None else (first, first in bad))
        self.assertEqual(sets[3][0].first_unlike(sets[5][0]), (3, False))
        self.assertEqual(sets[5][1].first_unlike(sets[3][1]), (-3, True))
        self.assertEqual(sets[2][0].first_unlike(sets[2][1]), (1, True))
        self.assertEqual(sets[2][1].first_unlike(sets[2][0]), (1, False))
        self.assertEqual(sets[1][0].first_unlike(sets[1][1]), None)

    def test_of_other_programs_and_arrays(self):
        self.assertEqual(GAPS.first_unlike(NEAR), (0, True))
        self.assertEqual(NEAR.first_unlike(GAPS), (0, False))
        self.assertEqual(GAPS.first_unlike(FAR), (1, False))
        self.assertEqual(FAR.first_unlike(GAPS), (1, True))
        self.assertEqual(FAR.first_unlike(Distances(BACK, "B", "up", "C", "up")), None)
        self.assertEqual(FAR.first_unlike(Distances(FOUR, "B", "up", "C", "up")), (10, False))

    def test_of_different_moduli(self):
        """The multiples of 2 and those of 3 in some interval, against each other."""
        made = []
        for step in (2, 3):
            loops = ((12, (("A", step, 0, ()),)), (12, (("B", step, 0, ()),)), (12, (("C", 1, 0, (("A", step, 0),)),)))
            schedule = schedule_of((("A", 36), ("B", 36), ("C", 12)), loops)
            made.append(Distances(schedule, "B", "up", "A", "up"))
        self.assertEqual(made[0].first_unlike(made[1]), (2, True))
        self.assertEqual(made[1].first_unlike(made[0]), (2, False))


if __name__ == "__main__":
    unittest.main()
