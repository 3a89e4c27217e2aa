"""family_holds, family_distances and cover_holds: the examples, each clause alone, any values, and the covers of parted."""

import random
import unittest
from collections import Counter

from leastlap.distances import Distances
from leastlap.families import cover_holds, family_distances, family_holds
from leastlap.programs import Program
from leastlap.schedules import Schedule

from tests.changes import changed
from tests.conflicts import all_conflicts, random_layout
from tests.covers import CoverReader
from tests.longs import random_long
from tests.samples import BACK, FOUR, JUNK, PLAIN, STRIP_PARTS, deep_value, schedule_of
from tests.walking import walked_events

NEAR, FAR = Distances(PLAIN, "B", "up", "A", "up"), Distances(PLAIN, "B", "up", "C", "up")
GAPS = Distances(Schedule.plain(Program(*STRIP_PARTS)), "T", "up", "X", "up")
WIDE = Distances(FOUR, "B", "up", "C", "up")
ONE, TWO = (((0, 0), 0), ((0, 0, 0), 1), 0, 1, 8), (((0, 0), 0), ((0, 0, 2), 1), 0, 1, 8)
SINGLE, REST = (((0, 1), 0), ((1, 0, 0), 0), 0, 0, 0), (((1, 2), 0), ((1, 0, 0), 1), 1, 1, 3)


def reader_of(distances):
    return CoverReader(distances.schedule, distances.one, distances.layout, distances.other, distances.other_layout)


def moved(family, write=0, use=0, **others):
    """A family with other numbers of the first write and use, and perhaps another a, b or last."""
    (write_place, number), (use_place, use_number), a, b, last = family
    return ((write_place, number + write), (use_place, use_number + use), others.get("a", a), others.get("b", b),
            others.get("last", last))


class ExamplesTest(unittest.TestCase):
    def test_families(self):
        self.assertEqual([family_holds(NEAR, ONE), family_distances(NEAR, ONE), family_distances(NEAR, TWO),
                          family_holds(NEAR, ONE[:4] + (9,))], [True, (1, 1, 8), (3, 1, 8), False])

    def test_covers(self):
        self.assertEqual([cover_holds(NEAR, 1, 11, 1, 0, (ONE, TWO)), cover_holds(NEAR, 0, 11, 1, 0, (ONE, TWO)),
                          cover_holds(NEAR, 1, 11, 1, 0, (TWO, ONE))], [True, False, False])
        self.assertEqual([family_distances(GAPS, REST), cover_holds(GAPS, 0, 8, 2, 0, (SINGLE, REST)),
                          cover_holds(GAPS, 1, 1, 2, 0, ()), cover_holds(GAPS, 1, 1, 2, 1, ())],
                         [(2, 2, 3), True, True, False])

    def test_lanes(self):
        self.assertEqual([family_holds(WIDE, (((1, 0), 3), ((1, 1, 0), 0), 4, 4, 1)),
                          family_holds(WIDE, (((1, 0), 3), ((1, 1, 0), 0), 2, 2, 2))], [True, False])

    def test_interface(self):
        for told in (family_holds, family_distances, cover_holds):
            self.assertEqual(told.__module__, "leastlap.families")
        self.assertIs(family_holds(thing=ONE, distances=NEAR), True)
        self.assertIs(family_holds(NEAR, None), False)
        self.assertEqual(family_distances(family=ONE, distances=NEAR), (1, 1, 8))
        self.assertIs(cover_holds(thing=(ONE,), residue=0, modulus=1, high=3, low=2, distances=NEAR), True)


class FirstClauseTest(unittest.TestCase):
    """The write and the use exist for t = 0 and t = last, are of the two arrays, and one place writes what is used."""

    def holds(self, distances, family, want):
        self.assertIs(family_holds(distances, family), want, family)
        self.assertIs(reader_of(distances).is_family(family), want, family)

    def test_numbers(self):
        self.holds(NEAR, moved(ONE, write=1, use=1, last=7), True)
        for family in (moved(ONE, last=9), moved(ONE, write=-1), moved(ONE, write=10), moved(ONE, use=9, last=0),
                       moved(ONE, use=-1, b=1), moved(ONE, b=-1, last=2), moved(ONE, use=-2, last=0),
                       moved(ONE, write=-10 ** 39, a=10 ** 39, last=1)):
            self.holds(NEAR, family, False)
        self.holds(NEAR, (((0, 0), 4), ((0, 0, 0), 9), -1, 0, 4), True)
        self.holds(NEAR, (((0, 0), 4), ((0, 0, 0), 9), -1, 0, 5), False)

    def test_places(self):
        for place in ((0,), (0, 1), (1, 2), (2, 0), (-1, 0), (0, -2), (0, 0, 0), (), "A", "B", "D", 0, None, (False, 0),
                      (0, False), [0, 0]):
            self.holds(NEAR, ((place, 0),) + ONE[1:4] + (0,), False)
        for place in ((0,), (0, 0), (0, 0, 3), (0, 0, -1), (0, 1, 0), (1, 0, 0), (2, 0, 0), (-2, 0, 0), (0, 0, 0, 0), "A",
                      "B", "C", "D", (0, 0, False), [0, 0, 0]):
            self.holds(NEAR, (ONE[0], (place, 1)) + ONE[2:4] + (0,), False)

    def test_arrays(self):
        """A family of other arrays, or of one array alone, is none of these two."""
        self.holds(FAR, (((1, 0), 0), ((1, 1, 0), 0), 0, 1, 9), True)
        for distances in (NEAR, Distances(PLAIN, "A", "up", "C", "up"), Distances(PLAIN, "C", "up", "A", "up")):
            self.holds(distances, (((1, 0), 0), ((1, 1, 0), 0), 0, 1, 9), False)
        self.holds(Distances(PLAIN, "C", "up", "B", "up"), (((1, 0), 0), ((1, 1, 0), 0), 0, 1, 9), True)
        self.holds(FAR, (((0, 0), 1), ((1, 0, 0), 0), 0, 0, 0), False)

    def test_inputs_and_outputs(self):
        schedule = schedule_of((("A", 5), ("B", 4), ("C", 5)), ((5, (("C", 1, 0, (("A", 1, 0),)),)),), ("A", "B"))
        told = Distances(schedule, "A", "up", "B", "up")
        self.holds(told, (("B", 0), ("A", 0), 1, 1, 3), True)
        self.assertEqual(family_distances(told, (("B", 0), ("A", 0), 1, 1, 3)), (0, 0, 3))
        self.assertEqual(family_distances(told, (("B", 3), ("A", 0), -1, 1, 3)), (3, -2, 3))
        self.assertEqual(family_distances(told, (("B", 0), ((0, 0, 0), 4), 0, -1, 4)), (-4, 1, 4))
        for family in ((("B", 0), ("A", 0), 1, 1, 4), (("B", 0), ("A", 5), 0, 0, 0), (("B", -1), ("A", 0), 0, 0, 0),
                       (("A", 0), ("B", 0), 0, 0, 0), (("B", 0), ("C", 0), 0, 0, 0), (("C", 0), ("A", 0), 0, 0, 0)):
            self.holds(told, family, False)

    def test_place_that_writes_what_is_used(self):
        arrays = (("C", 8), ("D", 4))
        loops = ((4, (("C", 2, 0, ()), ("C", 2, 1, ()))), (4, (("D", 1, 0, ()),)))
        told = Distances(schedule_of(arrays, loops, ("C",)), "C", "up", "D", "up")
        write = (1, 0), 0
        self.holds(told, (write, ("C", 0), 0, 1, 1), False)
        self.holds(told, (write, ("C", 0), 0, 2, 3), True)
        self.holds(told, (write, ("C", 1), 1, 2, 3), True)
        # The place is the same for both ends, but not between.
        self.holds(told, (write, ("C", 0), 0, 1, 2), False)


class OtherClausesTest(unittest.TestCase):
    def holds(self, distances, family, want):
        self.assertIs(family_holds(distances, family), want, family)
        self.assertIs(reader_of(distances).is_family(family), want, family)

    def test_number_of_the_write_of_what_is_used(self):
        """Second clause, with no other one broken: two places write in turn, and the iterations of one of them are asked."""
        arrays = (("C", 9), ("D", 4))
        loops = ((3, (("C", 3, 0, ()), ("C", 3, 1, ()), ("C", 3, 2, ()))), (4, (("D", 1, 0, ()),)))
        told = Distances(schedule_of(arrays, loops, ("C",)), "D", "up", "C", "up")
        self.holds(told, (((1, 0), 0), ("C", 0), 0, 3, 2), True)
        self.holds(told, (((1, 0), 0), ("C", 0), 1, 1, 3), False)
        self.holds(told, (((1, 0), 0), ("C", 0), 1, 2, 3), False)
        self.holds(told, (((1, 0), 0), ("C", 8), 1, -3, 2), True)

    def test_order(self):
        """Third clause: at one of the ends only, the write is too early or too late."""
        self.holds(NEAR, (((0, 0), 4), ((0, 0, 0), 5), 0, 1, 4), True)
        self.holds(NEAR, (((0, 0), 4), ((0, 0, 0), 4), 0, 1, 5), False)
        self.holds(NEAR, (((0, 0), 0), ((0, 0, 0), 1), 2, 1, 1), False)
        self.holds(NEAR, (((0, 0), 0), ((0, 0, 0), 4), 2, 1, 3), True)
        back = Distances(BACK, "B", "up", "A", "up")
        self.holds(back, (((0, 0), 9), ((0, 0, 0), 8), -1, -1, 8), True)
        self.holds(back, ONE, False)
        arrays = (("A", 9), ("B", 6), ("C", 6))
        loops = ((6, (("A", 1, 0, ()), ("B", 1, 0, ()), ("C", 1, 0, (("A", 1, 0),)))),)
        told = Distances(schedule_of(arrays, loops), "A", "up", "B", "up")
        self.holds(told, (((0, 1), 0), ((0, 2, 0), 0), 1, 1, 5), True)
        self.holds(told, (((0, 1), 0), ((0, 2, 0), 0), 0, 1, 1), False)
        self.holds(told, (((0, 1), 0), ((0, 2, 0), 1), 0, 0, 0), False)

    def test_lanes_of_write_and_use(self):
        """Fourth clause: two of the three numbers that change in one loop."""
        family = (((1, 0), 3), ((1, 1, 0), 0), 4, 4, 1)
        self.holds(WIDE, family, True)
        self.holds(WIDE, moved(family, a=0, b=1, last=3), True)
        self.holds(WIDE, moved(family, a=1, b=1, last=6), False)
        self.holds(WIDE, moved(family, a=4, b=1, last=1), False)
        self.holds(WIDE, moved(family, a=1, b=4, last=1), False)
        self.holds(Distances(PLAIN, "B", "up", "C", "up"), (((1, 0), 0), ((1, 1, 0), 0), 1, 1, 9), True)

    def test_lanes_of_write_and_write_of_what_is_used(self):
        arrays = (("A", 9), ("B", 9), ("C", 9))
        loops = ((9, (("A", 1, 0, ()), ("B", 1, 0, ()))), (9, (("C", 1, 0, (("A", 1, 0),)),)))
        schedule = schedule_of(arrays, loops).with_walk(0, "forward", 2)
        told = Distances(schedule, "A", "up", "B", "up")
        self.holds(told, (((0, 1), 0), ((1, 0, 0), 0), 2, 2, 4), True)
        self.holds(told, (((0, 1), 0), ((1, 0, 0), 0), 1, 1, 8), False)
        self.holds(told, (((0, 1), 0), ((1, 0, 0), 0), 2, 1, 4), False)
        self.holds(told, (((0, 1), 8), ((1, 0, 0), 0), 0, 1, 8), True)
        # With one lane in the loop of the writes, the lanes of the other loop do not matter.
        other = schedule_of(arrays, loops).with_walk(1, "backward", 4)
        self.holds(Distances(other, "A", "up", "B", "up"), (((0, 1), 0), ((1, 0, 0), 0), 1, 1, 8), True)

    def test_lanes_of_use_and_write_of_what_is_used(self):
        arrays = (("A", 20), ("B", 12))
        loops = ((8, (("A", 1, 0, ()),)), (12, (("B", 1, 0, (("A", 1, 0),)), ("A", 1, 8, ()))))
        schedule = schedule_of(arrays, loops).with_walk(1, "forward", 2)
        told = Distances(schedule, "A", "up", "B", "up")
        self.holds(told, (((1, 0), 5), ((1, 0, 0), 8), 0, 2, 1), True)
        self.holds(told, (((1, 0), 5), ((1, 0, 0), 8), 0, 1, 2), False)
        self.holds(told, (((1, 0), 5), ((1, 0, 0), 8), 0, 0, 1), True)
        self.holds(told, (((1, 0), 5), ((1, 0, 0), 7), 2, 0, 0), True)

    def test_rings(self):
        """Fifth clause, for what is written and for what is used."""
        write, use = ((1, 0), 0), ((1, 1, 0), 0)
        ringed = Distances(PLAIN, "B", "up", "C", ("ring", 4))
        self.holds(ringed, (write, use, 0, 1, 9), True)
        self.holds(ringed, (write, use, 2, 2, 4), True)
        self.holds(ringed, (write, use, 1, 1, 9), False)
        self.assertEqual(family_distances(ringed, (write, use, 2, 2, 4)), (0, -2, 4))
        used = Distances(PLAIN, "B", ("ring", 3), "C", "down")
        self.holds(used, (write, use, 1, 3, 3), True)
        self.holds(used, (write, use, 1, 1, 9), False)
        self.holds(used, (write, use, 0, 0, 7), True)
        self.assertEqual(family_distances(used, (write, use, 1, 3, 3)), (0, -2, 3))

    def test_last_0(self):
        """Only the existence and the order of member 0 are asked; a and b may be any integers."""
        family = (((1, 0), 3), ((1, 1, 0), 0), 10 ** 39, -10 ** 39, 0)
        for distances in (WIDE, Distances(FOUR, "B", ("ring", 7), "C", ("ring", 5))):
            self.holds(distances, family, True)
            self.holds(distances, family[:2] + (1, 1, 0), True)
        self.assertEqual(family_distances(WIDE, family), (6, 0, 0))
        self.assertEqual(family_distances(Distances(FOUR, "B", ("ring", 7), "C", ("ring", 5)), family), (1, 0, 0))
        for change in ((True, 0, 0), (0, False, 0), (0, 0, False), (None, 0, 0), (0, "0", 0), (0, 0, -1), (0, 0, None)):
            self.holds(WIDE, family[:2] + change, False)
        self.holds(WIDE, (((1, 0), 3), ((1, 1, 0), 4), 0, 0, 0), True)
        self.holds(WIDE, (((1, 0), 4), ((1, 1, 0), 3), 0, 0, 0), False)

    def test_great_lengths(self):
        n = 10 ** 18 - 2
        loops = ((n, (("B", 1, 0, (("A", 1, 0), ("A", 1, 2))),)),)
        told = Distances(schedule_of((("A", n + 2), ("B", n)), loops), "B", "up", "A", "up")
        self.holds(told, (((0, 0), 0), ((0, 0, 0), 1), 0, 1, n - 2), True)
        self.holds(told, (((0, 0), 0), ((0, 0, 0), 1), 0, 1, n - 1), False)
        self.assertEqual(family_distances(told, (((0, 0), 0), ((0, 0, 1), 1), 0, 1, n - 2)), (3, 1, n - 2))
        long, end = (((0, 0), 0), ((0, 0, 0), 1), 0, 1, n - 2), (((0, 0), 0), ((0, 0, 1), n - 2), 0, 1, 1)
        self.assertIs(cover_holds(told, 1, n + 1, 1, 0, (long, end)), True)
        self.assertIs(cover_holds(told, 1, n + 1, 1, 0, (long, end[:1] + (((0, 0, 1), n - 1), 0, 0, 0))), False)


class CoversTest(unittest.TestCase):
    def holds(self, distances, told, thing, want):
        self.assertIs(cover_holds(distances, *told, thing), want, (told, thing))
        self.assertIs(reader_of(distances).is_cover(*told, thing), want, (told, thing))

    def test_ends_and_gaps(self):
        self.holds(NEAR, (1, 11, 1, 0), (ONE, TWO), True)
        self.holds(NEAR, (1, 12, 1, 0), (ONE, TWO), False)
        self.holds(NEAR, (0, 11, 1, 0), (ONE, TWO), False)
        self.holds(NEAR, (1, 11, 1, 0), (ONE,), False)
        self.holds(NEAR, (3, 11, 1, 0), (TWO,), True)
        self.holds(NEAR, (2, 11, 1, 0), (TWO,), False)
        # 1 to 2, then 3 to 11; 1 to 2, then 4 to 11.
        self.holds(NEAR, (1, 11, 1, 0), (moved(ONE, last=1), TWO), True)
        self.holds(NEAR, (1, 11, 1, 0), (moved(ONE, last=1), moved(TWO, use=1, last=7)), False)
        self.holds(NEAR, (1, 11, 1, 0), (ONE, TWO, ONE, moved(ONE, last=0)), True)
        self.holds(NEAR, (5, 5, 1, 0), (ONE,), True)

    def test_first_family_that_ends_ahead_of_the_told_distances(self):
        self.holds(NEAR, (10, 11, 1, 0), (ONE, TWO), True)
        self.holds(NEAR, (10, 11, 1, 0), (moved(ONE, last=0), TWO), False)
        self.holds(NEAR, (10, 11, 1, 0), (moved(ONE, last=1), TWO), True)
        self.holds(NEAR, (10, 11, 1, 0), (TWO,), True)

    def test_steps(self):
        """The distances of a family go by the modulus, up or down, or it has one distance only, with any last."""
        down = (((0, 0), 0), ((0, 0, 0), 9), 0, -1, 8)
        self.assertEqual(family_distances(NEAR, down), (9, -1, 8))
        self.holds(NEAR, (1, 9, 1, 0), (down,), True)
        same = (((0, 0), 0), ((0, 0, 0), 5), 1, 1, 4)
        self.assertEqual(family_distances(NEAR, same), (5, 0, 4))
        for modulus in (1, 2, 3, 100):
            self.holds(NEAR, (5, 5, modulus, 5 % modulus), (same,), True)
        self.holds(NEAR, (1, 9, 2, 1), (moved(ONE, b=2, last=4),), True)
        self.holds(NEAR, (1, 9, 1, 0), (moved(ONE, b=2, last=4), moved(ONE, use=1, b=2, last=3)), False)
        self.holds(NEAR, (1, 9, 4, 1), (moved(ONE, b=2, last=4),), False)
        self.holds(NEAR, (1, 9, 2, 1), (ONE,), False)

    def test_residues(self):
        odd, even = moved(ONE, b=2, last=4), moved(ONE, use=1, b=2, last=3)
        self.holds(NEAR, (1, 9, 2, 1), (odd,), True)
        self.holds(NEAR, (2, 8, 2, 0), (even,), True)
        self.holds(NEAR, (2, 8, 2, 0), (odd,), False)
        self.holds(NEAR, (2, 8, 2, 0), (odd, even), False)
        self.holds(NEAR, (1, 9, 2, 1), (odd, moved(ONE, use=1, last=0)), False)
        self.holds(NEAR, (0, 10, 2, 1), (odd,), True)
        self.holds(NEAR, (0, 10, 2, 0), (even,), False)

    def test_no_distance(self):
        for told in ((3, 3, 2, 0), (5, 6, 7, 0), (4, 3, 1, 0), (-10 ** 30, 1 - 10 ** 30, 10 ** 31, 7)):
            self.holds(NEAR, told, (), True)
            for thing in ((ONE,), (((0, 0), 0),), (None,), None, [], "", 0, False, {}):
                self.holds(NEAR, told, thing, False)

    def test_some_distance_and_no_family(self):
        for thing in ((), None, [], "", 0, False):
            self.holds(NEAR, (1, 1, 1, 0), thing, False)

    def test_families_that_do_not_hold(self):
        self.holds(NEAR, (1, 11, 1, 0), (ONE, TWO, moved(ONE, last=9)), False)
        self.holds(NEAR, (1, 11, 1, 0), (ONE, TWO, None), False)
        self.holds(NEAR, (1, 11, 1, 0), [ONE, TWO], False)


class AnyValuesTest(unittest.TestCase):
    def test_junk(self):
        parts = JUNK + (NEAR, deep_value(40), tuple([0] * 20000), (ONE,) * 3000)
        for thing in parts:
            self.assertIs(family_holds(NEAR, thing), False)
            self.assertIs(cover_holds(NEAR, 1, 5, 1, 0, thing), thing == (ONE,) * 3000)
            self.assertIs(cover_holds(NEAR, 1, 5, 1, 0, (thing,)), False)
            for at in range(5):
                family = ONE[:at] + (thing,) + ONE[at + 1:]
                self.assertIs(family_holds(NEAR, family), reader_of(NEAR).is_family(family), at)
                for spot in range(2):
                    if at < 2:
                        pair = ONE[at][:spot] + (thing,) + ONE[at][spot + 1:]
                        self.assertIs(family_holds(NEAR, ONE[:at] + (pair,) + ONE[at + 1:]), False)

    def test_changed_ones(self):
        """Families and covers of random programs, changed in some places, against the plain reading."""
        rng, seen = random.Random(81), Counter()
        for distances in random_distances(rng, 120, (5, 11, 10 ** 15)):
            reader = reader_of(distances)
            for told, families in covers_of(distances):
                for _ in range(6):
                    thing = changed(rng, families)
                    near = told[0] + rng.randint(-2, 2), told[1] + rng.randint(-2, 2), told[2], told[3]
                    want = reader.is_cover(*near, thing)
                    self.assertIs(cover_holds(distances, *near, thing), want, (distances.schedule.text, near, thing))
                    family = changed(rng, rng.choice(families)) if families else thing
                    told_to_hold = reader.is_family(family)
                    self.assertIs(family_holds(distances, family), told_to_hold, (distances.schedule.text, family))
                    seen["cover", want] += 1
                    seen["family", told_to_hold] += 1
                    if told_to_hold:
                        self.assertEqual(family_distances(distances, family), reader.family(family))
        self.assertGreater(min(seen.values()), 200, seen)
        self.assertEqual(len(seen), 4)


def random_distances(rng, many, counts):
    """Distances of random schedules, arrays and layouts."""
    while many > 0:
        _, schedule = random_long(rng, rng.choice(counts))
        names = [name for name, _ in schedule.program.arrays]
        if len(names) > 1:
            one, other = rng.sample(names, 2)
            many -= 1
            yield Distances(schedule, one, random_layout(rng), other, random_layout(rng))


def covers_of(distances):
    """All covers that are parted, each with the told distances."""
    least, most = distances.least_bad or 0, distances.greatest_bad or 0
    modulus, rows = distances.parted(least - 3, most + 3)
    for rest, row in enumerate(rows):
        for low, high, families in row:
            if families is not None:
                yield (low, high, modulus, rest), families


class MeaningTest(unittest.TestCase):
    def test_covers_that_are_parted(self):
        rng, many = random.Random(82), 0
        for distances in random_distances(rng, 400, (5, 16, 1000, 10 ** 17 // 7)):
            for told, families in covers_of(distances):
                self.assertIs(cover_holds(distances, *told, families), True, (distances.schedule.text, told))
                many += 1
        self.assertGreater(many, 1000)

    def test_all_members_are_conflicts(self):
        """Of short programs, by the list of all conflicts: no family holds of which some member is none."""
        rng, seen = random.Random(83), Counter()
        for distances in random_distances(rng, 60, (5, 9)):
            schedule = distances.schedule
            program = schedule.program
            events = walked_events(program.arrays, program.loops, program.outputs, schedule.walks)
            conflicts = set(all_conflicts(events))
            elements = dict(events)
            for _, families in covers_of(distances):
                for family in families:
                    for thing in [family] + [changed(rng, family) for _ in range(8)]:
                        if family_holds(distances, thing):
                            self.hold_members(distances, thing, elements, conflicts)
                            seen[thing[4] > 0] += 1
        self.assertGreater(min(seen[True], seen[False]), 300, seen)

    def hold_members(self, distances, family, elements, conflicts):
        write, use, a, b, last = family
        start, step, many = family_distances(distances, family)
        self.assertEqual(many, last)
        couple = reader_of(distances)
        # If neither the write nor the use changes, there may be any number of members.
        for t in range(min(last, 99) + 1):
            x = elements["write", (write[0], write[1] + a * t)]
            y = elements["use", (use[0], use[1] + b * t)]
            self.assertIn((x, y), conflicts)
            self.assertFalse(distances.is_good(start + step * t))
            self.assertEqual(couple.member(family, t)[3], start + step * t)


if __name__ == "__main__":
    unittest.main()
