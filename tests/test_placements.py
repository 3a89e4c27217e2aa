"""Placements: the examples, layouts, sizes and cells, what is none, moving."""

import copy
import unittest

from leastlap.errors import NoPlacement
from leastlap.layouts import high_of, low_of, read_layout
from leastlap.placements import Placement
from leastlap.programs import Program

from tests.samples import JUNK, MOST, PLAIN, ROW, ROW_PARTS, TIGHT, deep_value, fault_of

A, B, C = ("A", 8, "up"), ("B", 10, "up"), ("C", 0, "up")
NO = ("NoPlacement",)


class ExamplesTest(unittest.TestCase):
    def test_example(self):
        self.assertEqual([TIGHT.size, TIGHT.cell(("A", 11)), TIGHT["C"], TIGHT.moved(("A", 10)).size,
                          Placement.apart(ROW).places],
                         [20, 19, (0, "up"), 22, (("A", 0, "up"), ("B", 12, "up"), ("C", 22, "up"))])


class InterfaceTest(unittest.TestCase):
    def test_attributes(self):
        self.assertEqual(TIGHT.program, ROW)
        for places in ((A, B, C), (C, B, A), (B, C, A)):
            self.assertEqual(Placement(ROW, *places).places, (A, B, C))

    def test_defined_in_the_class_itself(self):
        for name in ("__init__", "__eq__", "__getitem__", "size", "cell", "moved", "text", "read", "apart"):
            self.assertIn(name, vars(Placement))

    def test_by_name(self):
        self.assertEqual(Placement.apart(program=ROW), Placement.apart(ROW))
        self.assertEqual(TIGHT.cell(element=("B", 2)), 12)

    def test_equal(self):
        self.assertTrue(Placement(Program(*ROW_PARTS), A, C, B) == TIGHT)
        self.assertFalse(Placement(ROW, A, C, B) != TIGHT)
        for other in (TIGHT.moved(("A", 9)), Placement(ROW, ("A", 8, ("ring", 8)), B, C), ROW, PLAIN, TIGHT.places,
                      Placement(Program(*ROW_PARTS[:2]), A, B, C)):
            self.assertTrue(TIGHT != other)
            self.assertFalse(TIGHT == other)
        for thing in JUNK[:-1]:
            self.assertIs(TIGHT == thing, False)

    def test_items(self):
        placement = Placement(ROW, ("A", 11, "down"), ("B", 3, ("ring", 2)), C)
        self.assertEqual([placement[name] for name in "ABC"], [(11, "down"), (3, ("ring", 2)), (0, "up")])

    def test_plain_values(self):
        self.assertIs(TIGHT.places.__class__, tuple)
        self.assertTrue(all(place.__class__ is tuple for place in TIGHT.places))
        self.assertIs(TIGHT["A"].__class__, tuple)
        self.assertIs(TIGHT.size.__class__, int)

    def test_is_not_iterated_over(self):
        with self.assertRaises(TypeError):
            list(TIGHT)

    def test_nothing_is_changed(self):
        before = copy.deepcopy(vars(TIGHT))
        [TIGHT.moved(("A", 99), ("B", 77)), TIGHT.size, TIGHT.text, TIGHT["A"], TIGHT.cell(("A", 0))]
        places = [["A", 8, "up"], {"k": [1]}]
        told = copy.deepcopy(places)
        self.assertEqual(fault_of(Placement, ROW, *places), NO)
        self.assertEqual(places, told)
        self.assertEqual(vars(TIGHT), before)


class LayoutsTest(unittest.TestCase):
    def one(self, size, first, layout):
        program = Program((("A", size),), ((1, (("A", 0, 0, ()),)),))
        return Placement(program, ("A", first, layout))

    def test_cells(self):
        for layout, want in (("up", [5, 6, 7, 8, 9]), ("down", [5, 4, 3, 2, 1]), (("ring", 1), [5] * 5),
                             (("ring", 2), [5, 6, 5, 6, 5]), (("ring", 3), [5, 6, 7, 5, 6]), (("ring", 4), [5, 6, 7, 8, 5]),
                             (("ring", 5), [5, 6, 7, 8, 9]), (("ring", 8), [5, 6, 7, 8, 9])):
            placement = self.one(5, 5, layout)
            cells = [placement.cell(("A", index)) for index in range(5)]
            self.assertEqual(cells, want)
            self.assertEqual(placement.size, max(want) + 1)
            self.assertEqual([low_of(layout, 5), high_of(layout, 5)], [min(want) - 5, max(want) - 5])

    def test_layouts_that_are_read(self):
        for layout, text in (("up", "up"), ("down", "down"), (("ring", 1), "ring 1"), (("ring", 8), "ring 8")):
            self.assertEqual(read_layout(text), layout)
        for text in ("", "Up", "up ", "ring", "ring ", "ring 0", "ring 9", "ring 01", "ring  1", "ring 1 ", "ring up", "3"):
            self.assertEqual(fault_of(read_layout, text), ("InvalidText",))

    def test_the_lowest_first_cell(self):
        for size in (1, 2, 5, 8, 9, MOST):
            for layout, lowest in (("up", 0), ("down", size - 1), (("ring", 1), 0), (("ring", 8), 0)):
                self.assertEqual(self.one(size, lowest, layout)["A"], (lowest, layout))
                self.assertEqual(fault_of(self.one, size, lowest - 1, layout), NO)
                self.assertEqual(fault_of(self.one, size, -10 ** 39, layout), NO)

    def test_sizes(self):
        for size in (1, 2, 7, 8, 9, MOST):
            self.assertEqual(self.one(size, 3, "up").size, size + 3)
            self.assertEqual(self.one(size, size + 3, "down").size, size + 4)
            for m in range(1, 9):
                self.assertEqual(self.one(size, 3, ("ring", m)).size, 3 + min(m, size))

    def test_greatest_cell_of_all(self):
        self.assertEqual(Placement(ROW, ("A", 50, "down"), ("B", 10, "up"), C).size, 51)
        self.assertEqual(Placement(ROW, ("A", 50, ("ring", 4)), ("B", 10, "up"), C).size, 54)

    def test_last_cells_at_the_greatest_lengths(self):
        last = ("A", MOST - 1)
        self.assertEqual(self.one(MOST, 10 ** 29, "up").cell(last), 10 ** 29 + MOST - 1)
        self.assertEqual(self.one(MOST, MOST - 1, "down").cell(last), 0)
        self.assertEqual(self.one(MOST, 7, ("ring", 7)).cell(last), 7 + (MOST - 1) % 7)


class WrongPlacesTest(unittest.TestCase):
    def no(self, *places):
        self.assertEqual(fault_of(Placement, ROW, *places), NO, places)

    def test_which_arrays(self):
        self.assertIsNone(fault_of(Placement, ROW, A, B, C))
        for places in ((), (A,), (A, B), (A, B, B), (A, B, C, C), (A, B, C, ("D", 0, "up")), (A, B, ("D", 0, "up")),
                       (A, B, C, A), (A, A, B, C), (A, B, ("c", 0, "up")), (A, B, ("A", 9, "up"))):
            self.no(*places)

    def test_kinds(self):
        for place in (["C", 0, "up"], ("C", 0), ("C", 0, "up", 0), (0, "C", "up"), ("C", "up", 0), (), "C", None, ROW, PLAIN,
                      {"C": 0}, (("C", 0, "up"),), ([], 0, "up"), ({}, 0, "up"), (ROW, 0, "up")):
            self.no(A, B, place)
        self.no((A, B, C))
        self.no([A, B, C])

    def test_first_cells(self):
        for first in (True, False, None, "0", (0,), [0], {}, -1, -10 ** 39, ROW):
            self.no(A, B, ("C", first, "up"))
        for first in (0, 10 ** 18, 10 ** 30, 10 ** 40 - 1):
            self.assertEqual(Placement(ROW, A, B, ("C", first, "up"))["C"], (first, "up"))

    def test_layouts(self):
        for layout in ("Up", "", "ring", "left", None, True, 1, ("up",), ["up"], ("ring",), ("ring", 0), ("ring", 9),
                       ("ring", -1), ("ring", True), ("ring", "3"), ("ring", None), ("ring", 3, 3), ["ring", 3], ("Ring", 3),
                       (3, "ring"), {"ring": 3}, ((), 3), ([], 3), (ROW, 3), ROW, "ring 3", ("ring", 10 ** 39), ("ring", (3,))):
            self.no(A, B, ("C", 0, layout))
        for layout in ("up",) + tuple(("ring", m) for m in range(1, 9)):
            self.assertEqual(Placement(ROW, A, B, ("C", 0, layout))["C"], (0, layout))

    def test_any_value(self):
        for thing in JUNK + (deep_value(40), TIGHT.places):
            self.no(thing)
            self.no(A, B, thing)
            self.no(A, B, C, thing)

    def test_class(self):
        with self.assertRaises(NoPlacement):
            Placement(ROW, A)


class MovedTest(unittest.TestCase):
    def test_moved(self):
        self.assertEqual(TIGHT.moved().places, (A, B, C))
        self.assertEqual(TIGHT.moved(("C", 5), ("A", 0)).places, (("A", 0, "up"), B, ("C", 5, "up")))
        self.assertEqual(TIGHT.places, (A, B, C))

    def test_layouts_stay(self):
        placement = Placement(ROW, ("A", 11, "down"), ("B", 3, ("ring", 2)), C)
        self.assertEqual(placement.moved(("A", 12), ("B", 0)).places, (("A", 12, "down"), ("B", 0, ("ring", 2)), C))
        self.assertEqual(fault_of(placement.moved, ("A", 10)), NO)

    def test_below(self):
        for name in "ABC":
            self.assertEqual(fault_of(TIGHT.moved, (name, -1)), NO)
            self.assertEqual(TIGHT.moved((name, 0))[name], (0, "up"))
        self.assertEqual(fault_of(TIGHT.moved, ("A", 5), ("B", -1)), NO)


class ApartTest(unittest.TestCase):
    def test_one_array_and_six(self):
        loops = ((1, (("A", 0, 0, ()),)),)
        self.assertEqual(Placement.apart(Program((("A", 7),), loops)).places, (("A", 0, "up"),))
        arrays = tuple(zip("ABCDEF", (MOST, 1, 2, MOST, 3, MOST)))
        placement = Placement.apart(Program(arrays, loops))
        self.assertEqual(placement.size, 3 * MOST + 6)
        self.assertEqual([placement[name][0] for name in "ABCDEF"], [0, MOST, MOST + 1, MOST + 3, 2 * MOST + 3, 2 * MOST + 6])
        self.assertEqual({placement[name][1] for name in "ABCDEF"}, {"up"})


if __name__ == "__main__":
    unittest.main()
