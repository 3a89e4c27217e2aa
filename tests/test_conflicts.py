"""judge, is_right, finds, rings, lanes and Distances on many programs of few iterations, held against the plain walk."""

import random
import unittest
from collections import Counter

from leastlap.distances import Distances
from leastlap.judging import is_right, judge
from leastlap.placements import Placement
from leastlap.programs import Program
from leastlap.rings import lanes, rings
from leastlap.running import finds
from leastlap.schedules import Schedule

from tests.conflicts import (all_conflicts, bad_distances, is_right_by, random_layout, random_places, right_rings, walked_finds,
                             walked_judge)
from tests.covers import CoverReader
from tests.longs import random_long
from tests.samples import random_parts, random_walks
from tests.walking import walked_events, walked_fault, walked_late


def random_schedules(rng, many):
    """Schedules of random programs."""
    while many > 0:
        if rng.random() < 0.4:
            _, schedule = random_long(rng, rng.choice((5, 7, 11, 16)))
        else:
            parts = random_parts(rng, rng.choice((3, 7, 15)))
            if walked_fault(*parts):
                continue
            walks = random_walks(rng, parts[1])
            if walked_late(walked_events(*parts, walks)):
                continue
            schedule = Schedule(Program(*parts), walks)
        many -= 1
        yield schedule


def events_of(schedule, walks):
    program = schedule.program
    return walked_events(program.arrays, program.loops, program.outputs, walks)


class ConflictsTest(unittest.TestCase):
    """All of it for each program, so that the list of all conflicts is made only once."""

    def setUp(self):
        self.seen, self.moduli, self.before = Counter(), Counter(), None

    def hold_judge(self, rng, schedule, events, conflicts):
        for spread in (2, 12, 50):
            places = random_places(rng, schedule.program.arrays, spread)
            placement = Placement(schedule.program, *places)
            spots = {name: (first, layout) for name, first, layout in places}
            want = walked_judge(events, spots)
            self.assertEqual(judge(schedule, placement), want, (schedule.program.text, schedule.text, places))
            self.assertIs(is_right(schedule, placement), is_right_by(conflicts, spots))
            self.assertEqual(list(finds(schedule, placement)), walked_finds(events, spots))
            self.seen[want[0]] += 1
        self.hold_lanes(rng, schedule, placement, spots)
        self.hold_whole(schedule, placement, want[0] == "right")

    def hold_lanes(self, rng, schedule, placement, spots):
        loop, want = rng.randrange(len(schedule.walks)), []
        for count in (1, 2, 4):
            walks = list(schedule.walks)
            walks[loop] = (walks[loop][0], count)
            events = events_of(schedule, walks)
            if walked_late(events) is None and walked_judge(events, spots) == ("right",):
                want.append(count)
        told = lanes(schedule, placement, loop)
        self.assertEqual(told, tuple(want), (schedule.program.text, schedule.text, placement.places, loop))
        self.seen["lanes", told] += 1

    def hold_rings(self, schedule, conflicts):
        for name, _ in schedule.program.arrays:
            told = rings(schedule, name)
            self.assertEqual(told, right_rings(conflicts, name), (schedule.program.text, schedule.text, name))
            self.seen["rings", len(told)] += 1

    def hold_whole(self, schedule, placement, is_whole):
        """A placement is right exactly if every ring is right by itself and all distances are good."""
        places = placement.places
        alone = all([isinstance(layout, str) or layout[1] in rings(schedule, name) for name, _, layout in places])
        good = all([Distances(schedule, one, layout, other, other_layout).is_good(first - second)
                    for at, (one, first, layout) in enumerate(places)
                    for other, second, other_layout in places[at + 1:]])
        self.assertIs(is_whole, alone and good)
        self.seen["whole", alone, good] += 1

    def hold_distances(self, rng, schedule, conflicts):
        names = [name for name, _ in schedule.program.arrays]
        for _ in range(2 if len(names) > 1 else 0):
            one, other = rng.sample(names, 2)
            told = one, random_layout(rng), other, random_layout(rng)
            distances, bad = Distances(schedule, *told), bad_distances(conflicts, *told)
            about = schedule.program.text, schedule.text, told
            far = max([abs(k) for k in bad], default=5) + 12
            self.assertEqual({k for k in range(-far, far + 1) if not distances.is_good(k)}, bad, about)
            self.assertEqual((distances.least_bad, distances.greatest_bad), (min(bad, default=None), max(bad, default=None)))
            self.hold_intervals(rng, distances, bad, far)
            if self.before is not None:
                first = min(bad ^ self.before[1], key=lambda k: (abs(k), k < 0), default=None)
                self.assertEqual(distances.first_unlike(self.before[0]), None if first is None else (first, first in bad))
            self.before = distances, bad

    def hold_intervals(self, rng, distances, bad, far):
        about = distances.schedule.program.text, distances.schedule.text, distances.one, distances.other
        for _ in range(5):
            low = rng.randint(-far, far)
            high = rng.randint(low, far)
            self.assertEqual(distances.count_bad(low, high), len([k for k in bad if low <= k <= high]), about)
            self.assertEqual(distances.next_good(low), next(k for k in range(low, far + 9) if k not in bad), about)
            self.assertEqual(distances.next_good(high, step=-1),
                             next(k for k in range(high, -far - 9, -1) if k not in bad), about)
        reader = CoverReader(distances.schedule, distances.one, distances.layout, distances.other, distances.other_layout)
        for least, most in ((-far, far), (low, high), (high, high), (-10 ** 30, low)):
            modulus, rows = reader.parted(distances, least, most)
            self.moduli[modulus] += 1
            for rest, row in enumerate(rows):
                for begin, end, families in row:
                    if families is None:
                        self.assertFalse([k for k in bad if begin <= k <= end and k % modulus == rest], about)

    def test_all(self):
        rng = random.Random(61)
        for schedule in random_schedules(rng, 500):
            events = events_of(schedule, schedule.walks)
            conflicts = all_conflicts(events)
            self.hold_judge(rng, schedule, events, conflicts)
            self.hold_rings(schedule, conflicts)
            self.hold_distances(rng, schedule, conflicts)
        seen = self.seen
        self.assertGreater(min(seen["right"], seen["wrong"]), 300, seen)
        self.assertGreater(min(seen["whole", alone, good] for alone in (True, False) for good in (True, False)), 8, seen)
        self.assertGreater(min(seen["rings", many] for many in range(9)), 5, seen)
        self.assertGreaterEqual(len([key for key in seen if key[0] == "lanes"]), 5, seen)
        self.assertGreaterEqual(len(self.moduli), 12, self.moduli)


if __name__ == "__main__":
    unittest.main()
