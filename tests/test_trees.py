"""tree_against and tree_holds: the examples, each clause of point 16 alone, any values, and plain readings of trees."""

import copy
import random
import unittest
from collections import Counter

from leastlap.errors import NoMemory
from leastlap.memory import least_memory
from leastlap.programs import Program
from leastlap.rings import rings
from leastlap.schedules import Schedule
from leastlap.trees import tree_against, tree_holds

from tests.changes import changed, part_at, paths_of, replaced
from tests.conflicts import random_layout
from tests.growing import Grower
from tests.holding import TreeReader
from tests.least import ends_of
from tests.longs import random_long
from tests.samples import FOUR, JUNK, PLAIN, ROW, deep_value, schedule_of
from tests.test_memory import answer_of, random_problems, ups

UPS = (("A", "up"), ("B", "up"), ("C", "up"))
ONE, TWO = (((0, 0), 0), ((0, 0, 0), 1), 0, 1, 8), (((0, 0), 0), ((0, 0, 2), 1), 0, 1, 8)
THREE, FOURTH = (((1, 0), 0), ((1, 1, 0), 0), 0, 1, 9), (((1, 0), 0), ((1, 1, 0), 0), 1, 1, 9)
BELOW = ("parts", "B", "C", 1, (((-1, 9, ("cover", (THREE, FOURTH))), (10, 11, ("round", ("C", "B", "A")))),))
TREE = ("parts", "A", "B", 1, (((-11, -1, ("cover", (TWO, ONE))), (0, 9, BELOW)),))

# Three arrays of four cells, of which no two may share one: eleven cells are too few.
LOOPS = tuple((4, ((name, 1, 0, ()),)) for name in "ABC")
THREE_OF_FOUR = schedule_of((("A", 4), ("B", 4), ("C", 4)), LOOPS, ("A", "B", "C"))


def cover_of(one, loop):
    """All bad distances of an array to the one that a later loop writes, from -3 to 3."""
    return "cover", ((((loop, 0), 0), (one, 3), 1, 0, 3), (((loop, 0), 3), (one, 3), 0, -1, 3))


def thirds(one, other, loop, below, above, far=7):
    """The pair in three parts: too far below, bad, and too far above."""
    return "parts", one, other, 1, (((-far, -4, below), (-3, 3, cover_of(one, loop)), (4, far, above)),)


def in_thirds(far):
    """All three pairs in thirds, as far as that is needed."""
    below = thirds("B", "C", 2, ABC, thirds("A", "C", 2, ACB, CAB, far), far)
    above = thirds("B", "C", 2, thirds("A", "C", 2, BAC, BCA, far), CBA, far)
    return thirds("A", "B", 1, below, above, far)


ABC, ACB, CAB = ("round", ("A", "B", "C")), ("round", ("A", "C", "B")), ("round", ("C", "A", "B"))
CBA, BCA, BAC = ("round", ("C", "B", "A")), ("round", ("B", "C", "A")), ("round", ("B", "A", "C"))
ELEVEN = in_thirds(7)

# Three arrays with even elements only, all read in the end: odd distances are good, but not three of them.
EVEN_LOOPS = tuple((2, ((name, 2, 0, ()),)) for name in "ABC") + ((2, (("D", 1, 0, (("A", 2, 0), ("B", 2, 0), ("C", 2, 0))),)),)
EVEN = schedule_of((("A", 3), ("B", 3), ("C", 3), ("D", 2)), EVEN_LOOPS)
EVEN_UPS = ups(EVEN)


def even_parts(one, other, loop, read, below):
    """The pair by its residues, 0 being bad, with something below the others."""
    family = ((loop, 0), 0), ((3, 0, read), 0), 0, 0, 0
    return "parts", one, other, 2, (((0, 0, ("cover", (family,))),), ((-1, 1, below),))


def even_tree(leaf):
    return even_parts("A", "B", 1, 0, even_parts("B", "C", 2, 1, even_parts("A", "C", 2, 0, leaf)))


# Texts, walks, layouts, told first cells and least memories.
HARD = (
    ("""arrays A 201, B 201, C 102, D 101, E 99, F 102
loop 50
D[2i+2] =
F[2i+3] =
E[-2i+98] = D[2i+2] D[2i+2]
loop 101
B[2i] = F[101] E[0] F[101]
C[i+1] =
A[-2i+200] = B[2i] D[100] F[3]""", "backward 2\nbackward 2",
     (("A", "up"), ("B", "up"), ("C", ("ring", 7)), ("D", "down"), ("E", "up"), ("F", "up")), (("A", 403), ("E", 806)), 905),
    ("""arrays A 405, B 303, C 201, D 202, E 302
loop 101
E[2i] =
loop 101
B[2i] = E[2i] E[-2i+200]
C[2i] = E[2i]
A[2i+3] =
D[2i+1] = C[2i] B[2i]
B[i+202] = C[2i]
E[i+201] = E[-2i+200]
A[2i+204] = A[2i+3]""", "forward 1\nforward 2",
     (("A", "up"), ("B", "up"), ("C", "down"), ("D", ("ring", 7)), ("E", "down")), (("B", 1413),), 1716),
    ("""arrays A 2000005, B 2000007, C 2000007, D 4000012, E 6000022
loop 1000003
A[2i] =
E[2i+3] =
loop 1000003
B[-2i+2000006] = E[3] A[2i]
D[-2i+2000004] = A[-2i+2000004] B[-2i+2000006]
C[2i+2] =
E[-2i+4000015] = D[-2i+2000004] C[2i+2] B[-2i+2000006]
E[-2i+6000021] = A[2i]
D[2i+2000007] = E[2000007]""", "forward 2\nbackward 2",
     (("A", "up"), ("B", "down"), ("C", "up"), ("D", ("ring", 7)), ("E", "up")), (("C", 0),), 6000022),
    ("""arrays A 2000006, B 1000001, C 1000004, D 1000001, E 2500003
loop 500001
A[2i+1] =
D[2i] = A[2i+1]
C[2i+3] = A[2i+1] D[2i]
E[2i] = D[2i]
B[2i] = A[2i+1]
A[2i+1000005] = E[2i] A[2i+1]
E[i+1000001] = E[2i] E[2i]
E[2i+1500002] = A[2i+1000005] C[2i+3]""", "forward 2",
     (("A", "up"), ("B", "down"), ("C", ("ring", 5)), ("D", "down"), ("E", "up")), (("A", 0),), 2500003),
    ("""arrays A 1000004, B 1000004, C 1000004, D 1500005, E 1000003
loop 500001
D[2i+3] =
C[-2i+1000003] =
A[2i+3] = D[2i+3]
B[2i+3] = D[2i+3]
E[-2i+1000002] = B[2i+3] D[2i+3] D[2i+3]
D[i+1000004] = E[-2i+1000002] D[2i+3]""", "forward 2",
     (("A", "down"), ("B", "down"), ("C", "up"), ("D", ("ring", 7)), ("E", "down")), (("A", 1000003),), 1000008),
    ("""arrays A 2857142857142856, B 2857142857142855, C 2857142857142855, D 4285714285714286
loop 1428571428571428
A[2i+1] =
B[2i] = A[2i+1]
C[-2i+2857142857142854] = A[2i+1]
D[2i+3] = A[2i+1]
loop 714285714285714
D[2i+2857142857142859] = D[2i+1428571428571431] B[0] C[-2i+2857142857142854]""", "forward 2\nforward 2",
     (("A", ("ring", 7)), ("B", "down"), ("C", "up"), ("D", "up")), (), 5714285714285710),
    ("""arrays A 2857142857142855, B 2857142857142855, C 2857142857142855, D 7142857142857141
loop 1428571428571428
D[2i+3] =
C[2i] = D[2i+3] D[2i+3] D[2i+3]
B[2i] =
A[2i] = B[2i] D[2i+3] B[2i]
D[i+2857142857142858] = B[2i] C[2i]
D[2i+4285714285714286] = D[2i+3] B[2i] C[2i]""", "forward 2",
     (("A", ("ring", 5)), ("B", "down"), ("C", "down"), ("D", "up")), (), 7142857142857141),
)


class Case(unittest.TestCase):
    def holds(self, schedule, layouts, size, thing, want, told=()):
        self.assertIs(tree_holds(schedule, layouts, size, thing, told=told), want, (size, thing))
        self.assertIs(TreeReader(schedule, layouts, size, told).is_tree(thing), want, (size, thing))

    def against(self, schedule, layouts, size, told=()):
        """A tree that holds, or None."""
        tree = tree_against(schedule, layouts, size, told=told)
        if tree is not None:
            self.assertIs(tree_holds(schedule, layouts, size, tree, told=told), True, (schedule.program.text, size))
        return tree

    def least(self, schedule, layouts, told=()):
        """The least size, with a tree against the one before it, and trees against sizes ahead, but none behind."""
        size = least_memory(schedule, layouts, told=told)[0]
        tree = self.against(schedule, layouts, size - 1, told)
        self.assertIsNotNone(tree)
        self.assertIs(tree_holds(schedule, layouts, size, tree, told=told), False)
        for lesser in {0, size // 2, size * 2 // 3, max(0, size - 2)}:
            self.assertIsNotNone(self.against(schedule, layouts, lesser, told))
        for greater in (size, size + 1, 2 * size, 10 ** 35):
            self.assertIsNone(self.against(schedule, layouts, greater, told))
        return size


class ExamplesTest(Case):
    def test_tree_holds(self):
        self.assertEqual([tree_holds(PLAIN, UPS, 20, TREE), tree_holds(PLAIN, UPS, 21, TREE),
                          tree_holds(PLAIN, UPS, 22, TREE), tree_holds(PLAIN, UPS, 21, tree_against(PLAIN, UPS, 21))],
                         [True, True, False, True])
        for size, want in ((20, True), (21, True), (22, False), (19, False)):
            self.holds(PLAIN, UPS, size, TREE, want)

    def test_tree_against(self):
        self.assertEqual([tree_against(PLAIN, UPS, 22), tree_holds(PLAIN, UPS, 29, ("full", "C"), told=(("C", 10),))],
                         [None, True])

    def test_interface(self):
        self.assertEqual({made.__module__ for made in (tree_against, tree_holds)}, {"leastlap.trees"})
        self.assertIs(tree_holds(thing=TREE, size=21, layouts=UPS, schedule=PLAIN, told=()), True)
        tree = tree_against(size=21, layouts=UPS, schedule=PLAIN, told=(("A", 0),))
        self.assertIs(tree_holds(PLAIN, UPS, 21, tree, told=(("A", 0),)), True)
        with self.assertRaises(TypeError):
            tree_against(PLAIN, UPS, 21, (("A", 0),))
        with self.assertRaises(TypeError):
            tree_holds(PLAIN, UPS, 21, TREE, (("A", 0),))

    def test_kinds(self):
        """Trees are of tuples, strings and integers alone."""
        for schedule, size in ((PLAIN, 21), (FOUR, 21), (PLAIN, 3)):
            tree = tree_against(schedule, UPS, size)
            for path in paths_of(tree):
                self.assertIn(type(part_at(tree, path)), (tuple, str, int))

    def test_nothing_is_changed(self):
        schedule = copy.deepcopy(FOUR)
        before = repr([vars(schedule), vars(schedule.program)])
        tree = tree_against(schedule, UPS, 21)
        self.assertIs(tree_holds(schedule, UPS, 21, tree), True)
        self.assertEqual(repr([vars(schedule), vars(schedule.program)]), before)
        self.assertEqual(tree_against(schedule, UPS, 21), tree)


class FullTest(Case):
    def test_sizes(self):
        for size, name, want in ((19, "C", True), (20, "C", False), (11, "A", True), (12, "A", False), (9, "B", True),
                                 (10, "B", False), (0, "A", True), (0, "B", True), (19, "A", False), (0, "D", False)):
            self.holds(PLAIN, UPS, size, ("full", name), want)
        for layout, least in (("down", 20), (("ring", 5), 5), (("ring", 1), 1)):
            layouts = UPS[:2] + (("C", layout),)
            self.holds(PLAIN, layouts, least - 1, ("full", "C"), True)
            self.holds(PLAIN, layouts, least, ("full", "C"), False)

    def test_told_first_cells(self):
        self.holds(PLAIN, UPS, 29, ("full", "C"), True, (("C", 10),))
        self.holds(PLAIN, UPS, 30, ("full", "C"), False, (("C", 10),))
        down = (("A", "down"), ("B", "up"), ("C", "up"))
        self.holds(PLAIN, down, 15, ("full", "A"), True, (("A", 15),))
        self.holds(PLAIN, down, 16, ("full", "A"), False, (("A", 15),))

    def test_within_a_part(self):
        told = (("A", 20),)
        tree = ("parts", "B", "C", 1, (((-30, 0, ("full", "A")), (1, 30, ("full", "A"))),))
        self.holds(PLAIN, UPS, 30, tree, True, told)
        self.holds(PLAIN, UPS, 32, tree, False, told)
        # Nothing is left of A, so that it cannot be parted.
        self.holds(PLAIN, UPS, 30, ("parts",) + ("A", "B") + tree[3:], False, told)
        self.holds(PLAIN, UPS, 30, ("none", "A", "B"), False, told)
        self.holds(PLAIN, UPS, 30, ("none", "B", "C"), False, told)
        # Neither of two arrays may be full, whichever comes first.
        self.holds(PLAIN, UPS, 30, ("none", "A", "B"), False, (("B", 25),))
        self.holds(PLAIN, UPS, 30, ("full", "B"), True, (("B", 25),))


class NoneTest(Case):
    def tree(self, names):
        """A and B parted so that nothing is left in the last part."""
        return replaced(ELEVEN, (4, 0), ELEVEN[4][0] + ((8, 12, ("none",) + names),))

    def test_in_a_part_in_which_nothing_is_left(self):
        self.holds(THREE_OF_FOUR, UPS, 11, self.tree(("A", "B")), True)
        for names in (("B", "A"), ("A", "C"), ("B", "C"), ("A", "A"), ("A", "D"), ("A",), ("A", "B", "C"), (), (["A"], "B")):
            self.holds(THREE_OF_FOUR, UPS, 11, self.tree(names), False)

    def test_other_trees_in_such_a_part(self):
        """A round or parts ask for something that is left."""
        for leaf in (ABC, ("round", ("A", "B")), ("residues", ("A", "B")), thirds("A", "B", 1, ABC, ABC), ("full", "A")):
            tree = replaced(ELEVEN, (4, 0), ELEVEN[4][0] + ((8, 12, leaf),))
            self.holds(THREE_OF_FOUR, UPS, 11, tree, False)
        other = thirds("B", "C", 2, ("none", "A", "B"), ("none", "A", "B"))
        self.holds(THREE_OF_FOUR, UPS, 11, replaced(ELEVEN, (4, 0), ELEVEN[4][0] + ((8, 12, other),)), True)

    def test_where_something_is_left(self):
        self.holds(THREE_OF_FOUR, UPS, 11, ("none", "A", "B"), False)
        self.holds(THREE_OF_FOUR, UPS, 4, ("none", "A", "B"), False)
        self.holds(THREE_OF_FOUR, UPS, 3, ("none", "A", "B"), False)


class RoundTest(Case):
    def with_round(self, names):
        return replaced(ELEVEN, (4, 0, 0, 2, 4, 0, 0, 2), ("round", names))

    def test_names(self):
        self.holds(THREE_OF_FOUR, UPS, 11, ELEVEN, True)
        for names in (("A", "B", "C"), ("B", "C", "A"), ("C", "A", "B")):
            self.holds(THREE_OF_FOUR, UPS, 11, self.with_round(names), True)
        for names in (("A", "C", "B"), ("A", "B"), ("B", "C"), ("A", "C"), ("A",), (), ("A", "B", "C", "A"), ("A", "A"),
                      ("A", "B", "B", "C"), ("A", "B", "D"), ["A", "B", "C"], "ABC", (("A",), "B", "C"), None, 3):
            self.holds(THREE_OF_FOUR, UPS, 11, self.with_round(names), False)

    def test_sum_0(self):
        """With one cell more the sums are 0, and there is a placement."""
        self.holds(THREE_OF_FOUR, UPS, 12, ELEVEN, False)
        self.holds(THREE_OF_FOUR, UPS, 11, in_thirds(8), True)
        self.holds(THREE_OF_FOUR, UPS, 12, in_thirds(8), False)
        self.assertEqual(self.least(THREE_OF_FOUR, UPS), 12)

    def test_two_names(self):
        """They never have a sum below 0."""
        for size in (4, 7, 8, 11):
            for names in (("A", "B"), ("B", "A"), ("A", "C")):
                self.holds(THREE_OF_FOUR, UPS, size, ("round", names), False)

    def test_told_first_cells(self):
        """Of three told arrays the distances of each two are single numbers."""
        told = (("A", 0), ("B", 4), ("C", 8))
        self.holds(THREE_OF_FOUR, UPS, 12, ("round", ("A", "B", "C")), False, told)
        self.holds(THREE_OF_FOUR, UPS, 12, ("parts", "A", "B", 1, (((-4, -4, ("round", ("A", "B"))),),)), False, told)

    def test_residues_tell_the_greatest_distance(self):
        """Of odd distances from -4 to 0 the greatest one is -1."""
        loops = ((3, (("A", 2, 0, ()),)), (3, (("B", 2, 0, ()),)), (4, (("C", 1, 0, ()),)),
                 (3, (("D", 1, 0, (("A", 2, 0), ("B", 2, 0))),)))
        schedule = schedule_of((("A", 5), ("B", 5), ("C", 4), ("D", 3)), loops, ("C",))
        evens = "cover", ((((1, 0), 0), ((3, 0, 0), 2), 1, 0, 2), (((1, 0), 2), ((3, 0, 0), 2), 0, -1, 2))

        def ends(one, read, below, above):
            """Of the distance to C only -5 and 4 are good."""
            cover = "cover", ((((2, 0), 0), ((3, 0, read), 2), 1, 0, 3), (((2, 0), 0), ((3, 0, read), 0), 1, 0, 3))
            return "parts", one, "C", 1, (((-5, -5, below), (-4, 3, cover), (4, 4, above)),)

        def tree(middle):
            below = ends("A", 0, ends("B", 1, ABC, ACB), CAB)
            above = ends("A", 0, ends("B", 1, BAC, CBA), ends("B", 1, ABC, BAC))
            return "parts", "A", "B", 2, (((-4, 4, evens),), ((-4, middle, below), (middle + 1, 4, above)))

        layouts = ups(schedule)
        for middle, want in ((0, True), (-1, True), (1, False), (-2, False)):
            self.holds(schedule, layouts, 9, tree(middle), want)
        self.holds(schedule, layouts, 10, tree(0), False)
        self.assertEqual(self.least(schedule, layouts), 10)

    def test_unlike_bounds(self):
        """Each of the three sums alone tells; here A to B, B to C and C to A have different ends."""
        told = (("A", 5),)
        self.assertEqual(self.least(THREE_OF_FOUR, UPS, told), 13)
        self.assertEqual(self.least(THREE_OF_FOUR, UPS, (("A", 8),)), 12)
        self.assertEqual(self.least(THREE_OF_FOUR, UPS, (("A", 1), ("C", 7))), 15)


class ResiduesTest(Case):
    def test_three_odd_distances(self):
        for names in (("A", "B", "C"), ("C", "B", "A"), ("B", "A", "C")):
            self.holds(EVEN, EVEN_UPS, 4, even_tree(("residues", names)), True)
        for names in (("A", "B"), ("A", "B", "D"), ("A", "B", "C", "D"), ("A",), (), ("A", "B", "C", "B"), ["A", "B", "C"],
                      "ABC", None):
            self.holds(EVEN, EVEN_UPS, 4, even_tree(("residues", names)), False)
        for kind in ("round", "residue", "full", "none", "", None, 2):
            self.holds(EVEN, EVEN_UPS, 4, even_tree((kind, ("A", "B", "C"))), False)
        self.assertGreater(self.least(EVEN, EVEN_UPS), 4)

    def test_moduli(self):
        """Without the residue of one distance, those of the others do not contradict."""
        leaf = ("residues", ("A", "B", "C"))
        singles = ("parts", "A", "C", 1, (((-1, -1, leaf), (0, 0, ("cover", ((((2, 0), 0), ((3, 0, 0), 0), 0, 0, 0),))),
                                           (1, 1, leaf)),))
        tree = even_parts("A", "B", 1, 0, even_parts("B", "C", 2, 1, singles))
        self.holds(EVEN, EVEN_UPS, 4, tree, False)
        # A single distance has no residue until it is told.
        again = lambda k: ("parts", "A", "C", 2, ((), ((k, k, leaf),)))
        singles = ("parts", "A", "C", 1, (((-1, -1, again(-1)), singles[4][0][1], (1, 1, again(1))),))
        tree = even_parts("A", "B", 1, 0, even_parts("B", "C", 2, 1, singles))
        self.holds(EVEN, EVEN_UPS, 4, tree, True)

    def test_residues_told_twice(self):
        """Parts modulo 3 within parts modulo 2: the residue is one modulo 6."""
        leaf = ("residues", ("A", "B", "C"))
        last = even_parts("A", "C", 2, 0, ("parts", "A", "C", 3, ((), ((1, 1, leaf),), ((-1, -1, leaf),))))
        self.holds(EVEN, EVEN_UPS, 4, even_parts("A", "B", 1, 0, even_parts("B", "C", 2, 1, last)), True)
        wrong = even_parts("A", "C", 2, 0, ("parts", "A", "C", 3, (((0, 0, leaf),), ((1, 1, leaf),), ((-1, -1, leaf),))))
        self.holds(EVEN, EVEN_UPS, 4, even_parts("A", "B", 1, 0, even_parts("B", "C", 2, 1, wrong)), False)


class PartsTest(Case):
    """The clauses of parts alone, each broken in a tree that holds otherwise."""

    def row(self, *parts):
        return ELEVEN[:4] + ((parts,),)

    def test_pairs_and_moduli(self):
        self.holds(THREE_OF_FOUR, UPS, 11, ELEVEN, True)
        for at, parts in ((1, ("B", "C", "D", 0, None)), (2, ("A", "D", "", None)), (3, (0, 2, -1, True, None, "1"))):
            for part in parts:
                self.holds(THREE_OF_FOUR, UPS, 11, replaced(ELEVEN, (at,), part), False)
        self.holds(THREE_OF_FOUR, UPS, 11, ELEVEN[:1] + ("B", "A") + ELEVEN[3:], False)
        self.holds(THREE_OF_FOUR, UPS, 11, ELEVEN + ((),), False)
        self.holds(THREE_OF_FOUR, UPS, 11, ELEVEN[:4], False)
        self.holds(THREE_OF_FOUR, UPS, 11, ("part",) + ELEVEN[1:], False)
        self.holds(THREE_OF_FOUR, UPS, 11, ELEVEN[:3] + (0, ()), False)
        for rows in ((), ((),), ELEVEN[4] * 2, list(ELEVEN[4]), (list(ELEVEN[4][0]),), (None,), None, ELEVEN[4][0]):
            self.holds(THREE_OF_FOUR, UPS, 11, replaced(ELEVEN, (4,), rows), False)

    def test_ends(self):
        low, middle, high = ELEVEN[4][0]
        for begin, end, want in ((-7, 7, True), (-8, 7, True), (-7, 9, True), (-10 ** 39, 10 ** 39, True), (-6, 7, False),
                                 (-7, 6, False), (-4, 7, False), (-7, 4, False), (-3, 7, False)):
            self.holds(THREE_OF_FOUR, UPS, 11, self.row((begin,) + low[1:], middle, (4, end, high[2])), want)
        self.holds(THREE_OF_FOUR, UPS, 11, self.row(middle, high), False)
        self.holds(THREE_OF_FOUR, UPS, 11, self.row(low, middle), False)

    def test_gaps_and_overlaps(self):
        low, middle, high = ELEVEN[4][0]
        for parts in (((-7, -5, low[2]), middle, high), ((-7, -3, low[2]), middle, high), (low, (-2, 3, middle[2]), high),
                      (low, middle, (5, 7, high[2])), (low, middle, (3, 7, high[2])), (high, middle, low), (low, high, middle),
                      (low, low, middle, high), ((-4, -7, low[2]), middle, high), (low[:2], middle, high),
                      (low + (0,), middle, high), (low, list(middle), high), (None, low, middle, high),
                      ((-7, True, low[2]), middle, high), (("-7", -4, low[2]), middle, high)):
            self.holds(THREE_OF_FOUR, UPS, 11, self.row(*parts), False)
        self.holds(THREE_OF_FOUR, UPS, 11, self.row((-7, -6, low[2]), (-5, -4, low[2]), middle, high), True)

    def test_parts_in_which_nothing_is_left(self):
        low, middle, high = ELEVEN[4][0]
        none = ("none", "A", "B")
        self.holds(THREE_OF_FOUR, UPS, 11, self.row((-9, -8, none), low, middle, high), True)
        self.holds(THREE_OF_FOUR, UPS, 11, self.row((-9, -8, none), low, middle, high, (8, 8, none), (9, 99, none)), True)
        self.holds(THREE_OF_FOUR, UPS, 11, self.row((-9, -8, low[2]), low, middle, high), False)
        self.holds(THREE_OF_FOUR, UPS, 11, self.row((-9, -8, ("cover", ())), low, middle, high), False)
        # Such a part is not parted again, although all rows would be empty.
        for modulus in (1, 2):
            again = ("parts", "A", "B", modulus, ((),) * modulus)
            self.holds(THREE_OF_FOUR, UPS, 11, self.row((-9, -8, again), low, middle, high), False)

    def test_covers(self):
        low, middle, high = ELEVEN[4][0]
        first, second = middle[2][1]
        for families, want in (((first, second), True), ((first,), False), ((second,), False), ((second, first), False),
                               ((), False), ([first, second], False), ((first, None, second), False)):
            self.holds(THREE_OF_FOUR, UPS, 11, self.row(low, (-3, 3, ("cover", families)), high), want)
        for below in (("cover",), ("cover", (first, second), ()), ["cover", (first, second)], ("covers", (first, second)),
                      (first, second), None, ("none", "A", "B")):
            self.holds(THREE_OF_FOUR, UPS, 11, self.row(low, (-3, 3, below), high), False)
        # All of them are asked for, also those that are not left.
        self.holds(THREE_OF_FOUR, UPS, 5, ("parts", "A", "B", 1, ((middle,),)), True)
        self.holds(THREE_OF_FOUR, UPS, 5, ("parts", "A", "B", 1, (((-4,) + middle[1:],),)), False)
        self.holds(THREE_OF_FOUR, UPS, 5, ("parts", "A", "B", 1, (((-1, 1) + middle[2:],),)), True)

    def test_cover_alone(self):
        self.holds(THREE_OF_FOUR, UPS, 5, cover_of("A", 1), False)

    def test_rows(self):
        """A row is empty exactly if no distance that is left has its residue."""
        evens = tuple((((1, 0), i), ("A", j), 0, 0, 0) for i, j in ((0, 2), (0, 0), (2, 0)))
        odds = tuple((((1, 0), i), ("A", j), 0, 0, 0) for i, j in ((0, 3), (0, 1), (1, 0), (3, 0)))
        below = ("parts", "A", "B", 2, (((-2, 2, ("cover", evens)),), ((-3, 3, ("cover", odds)),)))
        for size, want in ((5, True), (4, False), (7, True), (8, False)):
            self.holds(THREE_OF_FOUR, UPS, size, below, want)
        self.holds(THREE_OF_FOUR, UPS, 4, below[:4] + ((below[4][0], ()),), True)
        self.holds(THREE_OF_FOUR, UPS, 5, below[:4] + ((below[4][0], ()),), False)
        self.holds(THREE_OF_FOUR, UPS, 4, below[:4] + (((), ()),), False)
        self.holds(THREE_OF_FOUR, UPS, 4, below[:4] + ((below[4][0], []),), False)
        fine = ("parts", "A", "B", 9, tuple(((k % 9, k % 9, ("cover", ((((1, 0), 0), ("A", 0), 0, 0, 0),))),) if k == 0 else ()
                                            for k in range(9)))
        self.holds(THREE_OF_FOUR, UPS, 4, fine, True)
        self.holds(THREE_OF_FOUR, UPS, 5, fine, False)

    def test_parts_of_parts(self):
        """A pair may be parted again, in a part of its own."""
        low, middle, high = ELEVEN[4][0]
        again = ("parts", "A", "B", 1, (((-7, -6, low[2]), (-5, -4, low[2])),))
        self.holds(THREE_OF_FOUR, UPS, 11, self.row((-7, -4, again), middle, high), True)
        again = ("parts", "A", "B", 2, (((-6, -4, low[2]),), ((-7, -5, low[2]),)))
        self.holds(THREE_OF_FOUR, UPS, 11, self.row((-7, -4, again), middle, high), True)
        again = ("parts", "A", "B", 2, (((-6, -4, low[2]),), ((-7, -4, low[2]), (-3, 9, ("none", "A", "B")))))
        self.holds(THREE_OF_FOUR, UPS, 11, self.row((-7, -4, again), middle, high), True)
        again = ("parts", "A", "B", 1, (((-7, -6, low[2]), (-5, -5, low[2])),))
        self.holds(THREE_OF_FOUR, UPS, 11, self.row((-7, -4, again), middle, high), False)


class AnyValuesTest(Case):
    def test_junk(self):
        for thing in JUNK + (deep_value(40), tuple([()] * 20000), ELEVEN, ROW, PLAIN, [TREE], (TREE,), {"parts": TREE}):
            self.assertIs(tree_holds(PLAIN, UPS, 21, thing), False)
        for thing in JUNK:
            for path in paths_of(TREE):
                if path and part_at(TREE, path) != thing:
                    told = replaced(TREE, path, thing)
                    self.assertIs(tree_holds(PLAIN, UPS, 21, told), TreeReader(PLAIN, UPS, 21, ()).is_tree(told), told)

    def test_great_numbers(self):
        far = 10 ** 39
        tree = ("parts", "A", "B", 1, (((-far, -1, ("cover", (TWO, ONE))), (0, far, BELOW)),))
        self.assertIs(tree_holds(PLAIN, UPS, 21, tree), False)
        tree = replaced(TREE, (4, 0), TREE[4][0] + ((10, far, ("none", "A", "B")),))
        self.assertIs(tree_holds(PLAIN, UPS, 21, tree), True)
        self.assertIs(tree_holds(PLAIN, UPS, 21, replaced(TREE, (3,), far)), False)
        many = ("parts", "A", "B", 6000, tuple(((0, 0, ("full", "A")),) if k < 10 or k > 5989 else () for k in range(6000)))
        self.assertIs(tree_holds(PLAIN, UPS, 21, many), False)
        self.assertIs(tree_holds(PLAIN, UPS, far, TREE), False)

    def test_depth(self):
        """Trees may be of any depth, although no library would go so deep."""
        tree = ELEVEN
        for _ in range(4000):
            tree = "parts", "A", "B", 1, (((-7, 7, tree),),)
        self.assertTrue(tree_holds(THREE_OF_FOUR, UPS, 11, tree))
        self.assertFalse(tree_holds(THREE_OF_FOUR, UPS, 12, tree))
        self.assertFalse(tree_holds(THREE_OF_FOUR, UPS, 11, (tree,)))

    def test_where_there_is_no_memory(self):
        """tree_holds goes by the clauses alone where no placement that fits is right."""
        ringed = (("A", "up"), ("B", ("ring", 8)), ("C", "up"))
        told = (("A", 0), ("B", 1))
        self.assertEqual([answer_of(PLAIN, ringed), answer_of(PLAIN, UPS, told=told)], [("ring", "B"), ("distance", "A", "B")])
        for arguments, firsts in (((PLAIN, ringed, 5), ()), ((PLAIN, UPS, 50), told), ((PLAIN, UPS, 0), told)):
            with self.assertRaises(NoMemory):
                tree_against(*arguments, told=firsts)
        self.holds(PLAIN, ringed, 19, ("full", "C"), True)
        self.holds(PLAIN, ringed, 20, ("full", "C"), False)
        tree = ("parts", "A", "B", 1, (((-1, -1, ("cover", (((TWO[0], ((0, 0, 0), 1), 0, 0, 0)),))),),))
        for size in (12, 50, 10 ** 3):
            self.holds(PLAIN, UPS, size, tree, True, told)
        self.holds(PLAIN, UPS, 12, tree, False, (("A", 0), ("B", 0)))

    def test_trees_against_other_things(self):
        tree = tree_against(PLAIN, UPS, 21)
        self.assertIs(tree_holds(PLAIN, UPS, 21, tree), True)
        for schedule in (FOUR, PLAIN.with_walk(0, "backward", 1)):
            self.assertIs(tree_holds(schedule, UPS, 21, tree), TreeReader(schedule, UPS, 21, ()).is_tree(tree))
        self.assertIs(tree_holds(PLAIN, (("A", "down"), ("B", "up"), ("C", "up")), 21, tree), False)
        self.assertIs(tree_holds(PLAIN, UPS, 21, tree, told=(("B", 0),)),
                      TreeReader(PLAIN, UPS, 21, (("B", 0),)).is_tree(tree))


class ReadingsTest(Case):
    def test_grown_trees(self):
        """Trees that are not of this library, and changed ones, against the plain reading."""
        rng, seen = random.Random(101), Counter()
        for _ in range(150):
            names = "ABC"[:rng.choice((2, 3, 3))]
            arrays = tuple((name, rng.choice((1, 1, 2, 2, 3))) for name in names)
            outputs = tuple(name for name in names if rng.random() < 0.9)
            schedule = schedule_of(arrays, tuple((size, ((name, 1, 0, ()),)) for name, size in arrays), outputs)
            layouts = tuple((name, rng.choice(("up", "down"))) for name in names)
            size = least_memory(schedule, layouts)[0] - rng.choice((1, 1, 2))
            grower = Grower(rng, schedule, layouts, size, ())
            for _ in range(12):
                tree = grower.tree(rng.choice((2, 3, 4, 5)))
                if tree is not None:
                    self.assertIs(tree_holds(schedule, layouts, size, tree), True, (schedule.program.text, tree))
                    seen.update(kind for kind in ("full", "none", "round", "residues") if repr(kind) in repr(tree))
                    self.hold_changed(rng, grower.reader, schedule, layouts, size, (), tree, seen)
        self.assertGreater(min(seen["full"], seen["none"]), 50, seen)
        self.assertGreater(min(seen["round"], seen["residues"]), 0, seen)

    def hold_changed(self, rng, reader, schedule, layouts, size, told, tree, seen):
        for _ in range(4):
            thing = changed(rng, tree)
            if len(repr(thing)) < 20000:
                want = reader.is_tree(thing)
                self.assertIs(tree_holds(schedule, layouts, size, thing, told=told), want,
                              (schedule.program.text, schedule.text, layouts, told, size, thing))
                seen[want] += 1

    def test_trees_of_short_programs(self):
        """Those of tree_against, and changed ones, against the plain reading."""
        rng, seen = random.Random(102), Counter()
        for schedule, layouts, told in short_problems(rng, 150):
            least = least_memory(schedule, layouts, told=told)[0]
            self.assertIsNone(tree_against(schedule, layouts, least, told=told))
            for size in {least - 1, rng.randrange(least)}:
                tree = self.against(schedule, layouts, size, told)
                reader = TreeReader(schedule, layouts, size, told)
                self.assertIs(reader.is_tree(tree), True, (schedule.program.text, schedule.text, layouts, told, size))
                seen[tree[0]] += 1
                if tree[0] == "parts":
                    self.hold_changed(rng, reader, schedule, layouts, size, told, tree, seen)
        self.assertGreater(min(seen["parts"], seen["full"], seen[True], seen[False]), 30, seen)

    def test_random_problems(self):
        """With told first cells of all kinds, also where nothing is right."""
        rng, seen = random.Random(103), Counter()
        for schedule, layouts, told, _ in random_problems(rng, 150, 45, iterations=7):
            answer = answer_of(schedule, layouts, told=told)
            if answer is None:
                seen[self.least(schedule, layouts, told)] += 1
            else:
                with self.assertRaises(NoMemory) as caught:
                    tree_against(schedule, layouts, 10, told=told)
                self.assertEqual(caught.exception.answer, answer)
        self.assertGreater(len(seen), 10, seen)


def short_problems(rng, many):
    """Schedules of few iterations and elements, with layouts and told first cells, that have a least memory."""
    while many > 0:
        program, schedule = random_long(rng, rng.choice((3, 4, 6)))
        sizes = dict(program.arrays)
        layouts = tuple((name, random_layout(rng, 0.2)) for name in sizes)
        names = sorted(rng.sample(sorted(sizes), min(len(sizes), rng.choice((0, 0, 1, 2)))))
        told = tuple((name, rng.randint(0, 12) - ends_of(sizes[name], dict(layouts)[name])[0]) for name in names)
        if len(sizes) > 1 and sum(sizes.values()) < 50 and answer_of(schedule, layouts, told=told) is None:
            many -= 1
            yield schedule, layouts, told


def count_of(thing):
    return 1 + sum(count_of(part) for part in thing) if isinstance(thing, tuple) else 1


class GreatLengthsTest(Case):
    def test_trees_do_not_grow(self):
        """The same program, longer and longer."""
        seen = set()
        for n in (10 ** 3, 10 ** 6, 10 ** 12, 5 * 10 ** 17 - 7):
            arrays = (("A", n + 2), ("B", n), ("C", 2 * n))
            loops = ((n, (("B", 1, 0, (("A", 1, 0), ("A", 1, 1), ("A", 1, 2))),)),
                     (n, (("C", 2, 0, (("B", 1, 0),)), ("C", 2, 1, (("B", 1, 0),)))))
            schedule = schedule_of(arrays, loops, ("C",))
            self.assertEqual(self.least(schedule, ups(schedule)), 2 * n + 2)
            seen.add(count_of(tree_against(schedule, ups(schedule), 2 * n + 1)))
        self.assertEqual(len(seen), 1, seen)

    def test_residues(self):
        """Programs in which the residues of several distances have to go together, of which some could take long."""
        for text, walks, layouts, told, want in HARD:
            schedule = Schedule.read(Program.read(text), walks)
            self.assertEqual(self.least(schedule, layouts, told), want)

    def test_random_ones(self):
        """Within the limits: strides up to 2, one or two lanes, at most one ring, and four arrays that are not told."""
        rng, seen = random.Random(104), Counter()
        while seen["all"] < 60:
            program, _ = random_long(rng, rng.choice((10 ** 16 // 7, 1000, 37)))
            if max(abs(c) for _, statements in program.loops for row in statements for c in [row[1]] + [
                    read[1] for read in row[3]]) > 2:
                continue
            schedule = Schedule.plain(program)
            names = [name for name, _ in program.arrays]
            layouts = {name: rng.choice(("up", "down")) for name in names}
            ringed = rng.choice(names)
            if rings(schedule, ringed):
                layouts[ringed] = ("ring", rng.choice(rings(schedule, ringed)))
            told = ()
            if len(names) > 4 or rng.random() < 0.4:
                name, size = rng.choice(program.arrays)
                told = ((name, rng.choice((0, size, 2 * size)) + (size - 1 if layouts[name] == "down" else 0)),)
            self.least(schedule, tuple(sorted(layouts.items())), told)
            seen["all"] += 1


if __name__ == "__main__":
    unittest.main()
