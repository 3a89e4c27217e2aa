"""Programs: the examples, what is none, elements, writes, and what is equal to what."""

import copy
import unittest

from leastlap.errors import NoProgram, Outside, Twice, Unwritten
from leastlap.placements import Placement
from leastlap.programs import Program
from leastlap.schedules import Schedule

from tests.samples import (JUNK, MOST, NINETEEN, PLAIN, ROW, ROW_PARTS, STRIP_PARTS, TAPS, TIGHT, TWICE, deep_value,
                           fault_of)

ONE = (("A", 5),)
COPY = (("B", 1, 0, (("A", 1, 0),)),)


def loop_of(*statements, count=1):
    return ((count, statements),)


class ExamplesTest(unittest.TestCase):
    def test_first_example(self):
        self.assertEqual([ROW.element((0, 0, 2), 4), ROW.write_of(("C", 7)), ROW.write_of(("A", 3)), ROW.inputs,
                          len(ROW), "D" in ROW], [("A", 6), ((1, 1), 3), ("A", 3), ("A",), 3, False])

    def test_text(self):
        self.assertEqual(ROW.text, "arrays A 12, B 10, C 20\nloop 10\nB[i] = A[i] A[i+1] A[i+2]\nloop 10\n"
                                   "C[2i] = B[i]\nC[2i+1] = B[i]\noutputs C")

    def test_outside(self):
        parts = ((("A", 11), ("B", 10), ("C", 20)),) + ROW_PARTS[1:]
        self.assertEqual(fault_of(Program, *parts), ("Outside", (0, 0, 2), 9))

    def test_unwritten(self):
        loops = ((4, (("A", 1, 1, (("A", 1, 0),)),)),)
        self.assertEqual(fault_of(Program, ONE, loops), ("Unwritten", ((0, 0, 0), 0)))

    def test_strip(self):
        strip = Program(*STRIP_PARTS)
        self.assertEqual([strip.inputs, len(strip), strip.write_of(("X", 6)), strip.write_of(("X", 4))],
                         [("A",), 5, ((1, 2), 1), None])


class InterfaceTest(unittest.TestCase):
    def test_most(self):
        self.assertEqual([Program.MOST, ROW.MOST], [6, 6])

    def test_attributes(self):
        self.assertEqual((ROW.arrays, ROW.loops, ROW.outputs), ROW_PARTS)
        self.assertEqual(Program(*ROW_PARTS[:2]).outputs, ())

    def test_by_name(self):
        arrays, loops, outputs = ROW_PARTS
        program = Program(outputs=outputs, loops=loops, arrays=arrays)
        self.assertEqual(program, ROW)
        self.assertEqual(program.element(i=4, place=(0, 0, 2)), ("A", 6))
        self.assertEqual(program.write_of(element=("C", 7)), ((1, 1), 3))
        self.assertEqual(program.size_of(name="C"), 20)
        self.assertEqual(Program.read(text=ROW.text), ROW)

    def test_defined_in_the_class_itself(self):
        for name in ("__init__", "__len__", "__contains__", "__eq__", "read", "element", "write_of", "size_of", "inputs",
                     "text", "MOST"):
            self.assertIn(name, vars(Program))

    def test_equal(self):
        arrays, loops, outputs = ROW_PARTS
        self.assertTrue(Program(arrays, loops, outputs) == ROW)
        self.assertFalse(Program(arrays, loops, outputs) != ROW)
        for other in (Program(arrays, loops), Program((("A", 13),) + arrays[1:], loops, outputs),
                      Program(arrays, ((10, (TAPS,)), (10, TWICE[::-1])), outputs)):
            self.assertTrue(other != ROW)
            self.assertFalse(other == ROW)
        for thing in JUNK[:-3] + (PLAIN, TIGHT, ROW_PARTS, ROW.text):
            self.assertFalse(ROW == thing)
            self.assertTrue(ROW != thing)

    def test_contains(self):
        self.assertTrue(all(name in ROW for name in "ABC"))
        for thing in JUNK + ("a", "AB", ("A",), ["A"], {"A": 1}, "", deep_value(40)):
            self.assertIs(thing in ROW, False)

    def test_length(self):
        statements = tuple(("A", 1, at, ()) for at in range(8))
        self.assertEqual(len(Program((("A", 8),), loop_of(*statements))), 8)
        self.assertEqual(len(Program(ONE, loop_of(statements[0]))), 1)

    def test_inputs(self):
        arrays = (("A", 5), ("B", 5), ("Z", 1), ("b", 2))
        self.assertEqual(Program(arrays, ((5, COPY),)).inputs, ("A", "Z", "b"))
        self.assertEqual(Program(ONE, loop_of(("A", 1, 0, ()), count=5)).inputs, ())

    def test_size_of(self):
        self.assertEqual([ROW.size_of(name) for name in "ABC"], [12, 10, 20])

    def test_elements(self):
        loops = ((5, (("B", -3, 12, (("A", 0, 4), ("A", -1, 4), ("A", 1, 0))),)),)
        program = Program((("A", 5), ("B", 13)), loops)
        self.assertEqual([program.element((0, 0), i) for i in (0, 4)], [("B", 12), ("B", 0)])
        self.assertEqual([program.element((0, 0, read), 3) for read in (0, 1, 2)], [("A", 4), ("A", 1), ("A", 3)])

    def test_write_of_goes_back_to_each_write(self):
        program = Program(*STRIP_PARTS)
        found = {}
        for loop, (count, statements) in enumerate(program.loops):
            for at in range(len(statements)):
                for i in range(count):
                    found[program.element((loop, at), i)] = ((loop, at), i)
        for name, size in program.arrays:
            for index in range(size):
                want = (name, index) if name == "A" else found.get((name, index))
                self.assertEqual(program.write_of((name, index)), want)

    def test_write_of_constant_index(self):
        program = Program(ONE, loop_of(("A", 0, 3, ())))
        self.assertEqual([program.write_of(("A", index)) for index in range(5)], [None, None, None, ((0, 0), 0), None])

    def test_write_of_what_does_not_exist(self):
        self.assertEqual([ROW.write_of(("A", 12)), ROW.write_of(("A", -1)), ROW.write_of(("C", 20))], [None] * 3)

    def test_plain_values(self):
        for value in (ROW.inputs, ROW.element((0, 0), 1), ROW.write_of(("C", 7)), ROW.write_of(("C", 7))[0]):
            self.assertIs(value.__class__, tuple)
        self.assertIs(ROW.element((0, 0), 1)[1].__class__, int)
        self.assertIs(ROW.text.__class__, str)


class LimitsTest(unittest.TestCase):
    """The bounds of point 4: what just is a program, and what just is none."""

    def no(self, part, *arguments):
        self.assertEqual(fault_of(Program, *arguments), ("NoProgram", part))

    def test_number_of_arrays(self):
        arrays = tuple((name, 5) for name in "ABCDEFG")
        loops = loop_of(("A", 1, 0, ()))
        self.assertEqual(len(Program(arrays[:6], loops).arrays), 6)
        self.assertEqual(len(Program(arrays[:1], loops).arrays), 1)
        self.no("arrays", arrays, loops)
        self.no("arrays", (), loops)

    def test_letters_of_other_alphabets(self):
        for name in ("\u00c9", "\u03b1", "A\u0661"):
            self.no("arrays", ((name, 1),), loop_of((name, 1, 0, ())))

    def test_names(self):
        for name in ("A", "a", "Zz", "abcdefgh", "ABCDEFGH", "loop", "arrays", "outputs", "i", "ring"):
            self.assertEqual(Program(((name, 1),), loop_of((name, 1, 0, ()))).inputs, ())
        for name in ("", "abcdefghi", "A1", "A b", "A_", " A", "A\n", "A[", 1, None, True, ("A",), ["A"], {}, "1", "-"):
            self.no("arrays", ((name, 1),), ())

    def test_order_of_arrays(self):
        loops = loop_of(("A", 1, 0, ()))
        self.assertEqual(Program((("A", 1), ("AB", 1), ("B", 1), ("a", 1)), loops).arrays[3], ("a", 1))
        self.no("arrays", (("B", 1), ("A", 1)), loops)
        self.no("arrays", (("a", 1), ("A", 1)), loops)
        self.no("arrays", (("A", 1), ("A", 2)), loops)
        self.no("arrays", (("A", 1), ("A", 1)), loops)

    def test_sizes(self):
        loops = loop_of(("A", 1, 0, ()))
        for size in (1, 2, MOST):
            self.assertEqual(Program((("A", size),), loops).size_of("A"), size)
        for size in (0, -1, MOST + 1, 10 ** 39, True, False, None, "1", (1,), [1], ROW):
            self.no("arrays", (("A", size),), loops)

    def test_form_of_arrays(self):
        loops = loop_of(("A", 1, 0, ()))
        for arrays in (["A", 5], [("A", 5)], (["A", 5],), (("A",),), (("A", 5, 5),), ("A", 5), {"A": 5}, ("A",), ((),)):
            self.no("arrays", arrays, loops)
        for arrays in JUNK + (deep_value(40),):
            self.no("arrays", arrays, loops)

    def test_number_of_loops(self):
        arrays = (("A", 5), ("B", 5))
        loops = tuple((1, (("B", 0, at, ()),)) for at in range(5))
        self.assertEqual(len(Program(arrays, loops[:4])), 4)
        self.no("loops", arrays, loops)
        self.no("loops", arrays, ())

    def test_number_of_statements(self):
        arrays = (("A", 9),)
        rows = tuple(("A", 1, at, ()) for at in range(9))
        self.assertEqual(len(Program(arrays, loop_of(*rows[:8]))), 8)
        self.assertEqual(len(Program(arrays, ((1, rows[:3]), (1, rows[3:7]), (1, rows[7:8])))), 8)
        self.no("loops", arrays, loop_of(*rows))
        self.no("loops", arrays, ((1, rows[:3]), (1, rows[3:7]), (1, rows[7:])))
        self.no("loops", arrays, loop_of())
        self.no("loops", arrays, ((1, rows[:1]), (1, ())))

    def test_number_of_reads(self):
        arrays = (("A", 9), ("B", 9))
        reads = (("A", 1, 0),) * 4
        for many in range(4):
            self.assertEqual(len(Program(arrays, loop_of(("B", 1, 0, reads[:many])))), 1)
        self.no("loops", arrays, loop_of(("B", 1, 0, reads)))

    def test_counts(self):
        arrays = (("A", MOST),)
        for count in (1, 2, MOST):
            self.assertEqual(Program(arrays, loop_of(("A", 1, 0, ()), count=count)).loops[0][0], count)
        for count in (0, -1, MOST + 1, True, None, "1", (1,), ROW):
            self.no("loops", arrays, loop_of(("A", 1, 0, ()), count=count))

    def test_steps(self):
        arrays = (("A", 10), ("B", 10))
        for c in range(-3, 4):
            d = 3 * (1 if c >= 0 else -c)
            if c:
                self.assertEqual(len(Program(arrays, loop_of(("A", c, d, ()), count=2))), 1)
            self.assertEqual(len(Program(arrays, loop_of(("A", 1, 0, (("B", c, d),)), count=2))), 1)
        for c in (4, -4, True, False, None, "1", (1,), 10 ** 30):
            self.no("loops", arrays, loop_of(("A", c, 0, ())))
            self.no("loops", arrays, loop_of(("A", 1, 0, (("B", c, 0),))))

    def test_constant_index_that_is_written(self):
        self.assertEqual(len(Program(ONE, loop_of(("A", 0, 4, ())))), 1)
        self.no("loops", ONE, loop_of(("A", 0, 4, ()), count=2))
        self.no("loops", ONE, loop_of(("A", 0, 4, ()), count=MOST))

    def test_shifts(self):
        for d in (NINETEEN, -NINETEEN):
            self.assertEqual(fault_of(Program, ONE, loop_of(("A", 1, d, ()))), ("Outside", (0, 0), 0))
            read = (("A", 1, 0, (("A", 1, d),)))
            self.assertEqual(fault_of(Program, ONE, loop_of(read)), ("Outside", (0, 0, 0), 0))
        for d in (NINETEEN + 1, -NINETEEN - 1, True, False, None, "1", (1,), [1]):
            self.no("loops", ONE, loop_of(("A", 1, d, ())))
            self.no("loops", ONE, loop_of(("A", 1, 0, (("A", 1, d),))))

    def test_names_in_statements(self):
        for name in ("B", "", "a", "AA", None, 1, True, ("A",), ["A"], {"A": 1}, ROW):
            self.no("loops", ONE, loop_of((name, 1, 0, ())))
            self.no("loops", ONE, loop_of(("A", 1, 0, ((name, 1, 0),))))

    def test_form_of_loops(self):
        good = ("A", 1, 0, (("A", 1, 0),))
        for loops in ([(1, (good,))], ([1, (good,)],), ((1, [good]),), ((1, (list(good),)),), ((1, (good,), 1),), ((1,),),
                      (((good,), 1),), (1, (good,)), loop_of(good[:3]), loop_of(good + ((),)), loop_of(good[:3] + ([],)),
                      loop_of(good[:3] + (None,)), loop_of(good[:3] + ((["A", 1, 0],),)),
                      loop_of(good[:3] + ((("A", 1),),)), loop_of(good[:3] + ((("A", 1, 0, 0),),)),
                      loop_of(good[:3] + (("A", 1, 0),)), loop_of(*good), {1: (good,)}):
            self.no("loops", ONE, loops)
        for loops in JUNK + (deep_value(40),):
            self.no("loops", ONE, loops)

    def test_outputs(self):
        arrays = (("A", 5), ("B", 5), ("C", 5))
        loops = ((5, COPY),)
        for outputs in ((), ("A",), ("B",), ("A", "B"), ("A", "B", "C")):
            self.assertEqual(Program(arrays, loops, outputs).outputs, outputs)
        for outputs in (("B", "A"), ("A", "A"), ("D",), ("A", "D"), ["A"], "A", ("A", 1), ("A", None), (("A",),), (["A"],),
                        {"A": 1}, None, True, 0, ROW, ("A", {}), deep_value(40)):
            self.no("outputs", arrays, loops, outputs)

    def test_order_of_the_parts(self):
        loops = ((5, COPY),)
        for arrays in ((), None):
            self.no("arrays", arrays, None, None)
            self.no("arrays", arrays, loops, ("A",))
        self.no("loops", ONE, loops, ("Z",))
        self.no("outputs", (("A", 1), ("B", 1)), loops, ("Z",))

    def test_one_part_replaced(self):
        """Each part of the arguments in turn is replaced by values of other kinds."""
        for at, part in ((0, "arrays"), (1, "loops"), (2, "outputs")):
            for path in paths_of(ROW_PARTS[at]):
                for thing in (None, True, False, "", "?", [], {}, (), ROW, -10 ** 39):
                    if thing == () and may_be_empty(part, path):
                        continue
                    changed = list(ROW_PARTS)
                    changed[at] = replaced(ROW_PARTS[at], path, thing)
                    self.no(part, *changed)

    def test_nothing_is_changed(self):
        for arguments in (([["A", 5]], {"k": [1, 2]}, ["A"]), (ONE, [[1, [["A", 1, 0, []]]]], {}), (ONE, loop_of(
                ("A", 1, 0, ())), ["A", ["B"]])):
            before = copy.deepcopy(arguments)
            self.assertEqual(fault_of(Program, *arguments)[0], "NoProgram")
            self.assertEqual(arguments, before)


def paths_of(thing):
    """The ways to all parts of a tuple, itself included."""
    yield ()
    if isinstance(thing, tuple):
        for at, part in enumerate(thing):
            for path in paths_of(part):
                yield (at,) + path


def may_be_empty(part, path):
    """Whether a part is that of the outputs or of the reads of a statement."""
    if part == "outputs":
        return path == ()
    return part == "loops" and len(path) == 4 and path[3] == 3


def replaced(thing, path, other):
    if not path:
        return other
    at = path[0]
    return thing[:at] + (replaced(thing[at], path[1:], other),) + thing[at + 1:]


class OrderOfErrorsTest(unittest.TestCase):
    def test_kinds(self):
        """One program with all errors of point 5, which are mended one after the other."""
        statements = (("A", 1, 0, (("A", 1, 1),)), ("A", 1, 0, ()))
        self.assertEqual(fault_of(Program, (("A", 2),), ((2, statements),), ("B",)), ("NoProgram", "outputs"))
        self.assertEqual(fault_of(Program, (("A", 2),), ((2, statements),), ("A",)), ("Outside", (0, 0, 0), 1))
        self.assertEqual(fault_of(Program, (("A", 3),), ((2, statements),), ("A",)), ("Twice", ((0, 1), 0)))
        self.assertEqual(fault_of(Program, (("A", 3),), ((2, statements[:1]),), ("A",)), ("Unwritten", ((0, 0, 0), 0)))
        self.assertEqual(fault_of(Program, (("A", 3),), ((2, statements[1:]),), ("A",)), ("Unwritten", ("A", 2)))
        self.assertIsNone(fault_of(Program, (("A", 2),), ((2, statements[1:]),), ("A",)))

    def test_outside_goes_by_place_ahead_of_iteration(self):
        arrays = (("A", 5), ("B", 5))
        late, soon = ("A", 1, 1, ()), ("B", 1, -1, ())
        self.assertEqual(fault_of(Program, arrays, ((5, (late, soon)),)), ("Outside", (0, 0), 4))
        self.assertEqual(fault_of(Program, arrays, ((5, (soon, late)),)), ("Outside", (0, 0), 0))
        self.assertEqual(fault_of(Program, arrays, ((5, (late,)), (5, (soon,)))), ("Outside", (0, 0), 4))

    def test_outside_takes_the_write_ahead_of_the_reads_in_order(self):
        arrays = (("A", 5), ("B", 5))
        reads = (("A", 1, 2), ("A", 1, -1))
        self.assertEqual(fault_of(Program, arrays, ((5, (("B", 1, 1, reads),)),)), ("Outside", (0, 0), 4))
        self.assertEqual(fault_of(Program, arrays, ((5, (("B", 1, 0, reads),)),)), ("Outside", (0, 0, 0), 3))
        self.assertEqual(fault_of(Program, arrays, ((5, (("B", 1, 0, reads[1:]),)),)), ("Outside", (0, 0, 0), 0))

    def test_outside_below(self):
        arrays = (("A", 5), ("B", 9))
        self.assertEqual(fault_of(Program, arrays, ((5, (("B", 1, 0, (("A", -2, 4),)),)),)), ("Outside", (0, 0, 0), 3))
        self.assertEqual(fault_of(Program, arrays, ((5, (("B", 1, 0, (("A", 0, -1),)),)),)), ("Outside", (0, 0, 0), 0))
        self.assertEqual(fault_of(Program, arrays, ((5, (("B", 1, 0, (("A", 0, 5),)),)),)), ("Outside", (0, 0, 0), 0))
        self.assertIsNone(fault_of(Program, arrays, ((5, (("B", -2, 8, (("A", -1, 4),)),)),)))

    def test_twice_goes_by_the_run(self):
        arrays = (("A", 20),)
        slow, fast = ("A", 1, 4, ()), ("A", 2, 0, ())
        self.assertEqual(fault_of(Program, arrays, ((8, (slow, fast)),)), ("Twice", ((0, 1), 2)))
        self.assertEqual(fault_of(Program, arrays, ((8, (fast, slow)),)), ("Twice", ((0, 0), 2)))
        self.assertEqual(fault_of(Program, arrays, ((8, (slow,)), (8, (fast,)))), ("Twice", ((1, 0), 2)))
        self.assertEqual(fault_of(Program, arrays, ((8, (fast,)), (8, (slow,)))), ("Twice", ((1, 0), 0)))

    def test_twice_with_one_statement_in_other_loops(self):
        constant = ("A", 0, 3, ())
        self.assertEqual(fault_of(Program, ONE, ((1, (constant,)), (1, (constant,)))), ("Twice", ((1, 0), 0)))
        self.assertEqual(fault_of(Program, ONE, ((5, (("A", -1, 4, ()),)), (1, (constant,)))), ("Twice", ((1, 0), 0)))
        self.assertEqual(fault_of(Program, ONE, ((1, (constant,)), (5, (("A", -1, 4, ()),)))), ("Twice", ((1, 0), 1)))

    def test_unwritten_goes_by_the_run(self):
        arrays = (("A", 9), ("B", 9))
        first = ("B", 1, 0, (("A", 1, 0), ("A", 0, 8)))
        self.assertEqual(fault_of(Program, arrays, ((8, (("A", 1, 0, ()), first)),)), ("Unwritten", ((0, 1, 1), 0)))
        self.assertEqual(fault_of(Program, arrays, ((8, (first, ("A", 1, 0, ()))),)), ("Unwritten", ((0, 0, 0), 0)))
        self.assertEqual(fault_of(Program, arrays, ((8, (("A", 1, 0, ()),)), (9, (("B", 1, 0, (("A", 1, 0),)),)))),
                         ("Unwritten", ((1, 0, 0), 8)))

    def test_a_statement_reads_before_it_writes(self):
        self.assertEqual(fault_of(Program, ONE, ((5, (("A", 1, 0, (("A", 1, 0),)),)),)), ("Unwritten", ((0, 0, 0), 0)))

    def test_what_no_statement_writes_is_an_input(self):
        self.assertEqual(Program(ONE + (("B", 5),), ((5, COPY),), ("A", "B")).inputs, ("A",))

    def test_unwritten_outputs_come_last_and_ascending(self):
        arrays = (("A", 3), ("B", 3))
        loops = ((2, (("A", 1, 0, ()), ("B", 1, 1, ()))),)
        self.assertEqual(fault_of(Program, arrays, loops, ("A", "B")), ("Unwritten", ("A", 2)))
        self.assertEqual(fault_of(Program, arrays, loops, ("B",)), ("Unwritten", ("B", 0)))
        self.assertIsNone(fault_of(Program, arrays, loops))
        reader = ((1, (("C", 0, 0, (("B", 0, 0),)),)),)
        self.assertEqual(fault_of(Program, arrays + (("C", 1),), loops + reader, ("A",)), ("Unwritten", ((1, 0, 0), 0)))

    def test_classes(self):
        for error, arguments in ((NoProgram, (ONE, (), ())), (Outside, (ONE, loop_of(("A", 1, 5, ())))),
                                 (Twice, (ONE, loop_of(("A", 1, 0, ()), ("A", 1, 0, ())))),
                                 (Unwritten, (ONE, loop_of(("A", 1, 0, ())), ("A",)))):
            with self.assertRaises(error):
                Program(*arguments)


class UnchangedTest(unittest.TestCase):
    def test_programs_stay_as_they_are(self):
        program = Program(*ROW_PARTS)
        before = copy.deepcopy(vars(program))
        list(Schedule.plain(program).events())
        Placement.apart(program)
        Program.read(program.text)
        [program.element((1, 1), 3), program.write_of(("C", 3)), program.inputs, len(program), "A" in program]
        self.assertEqual(vars(program), before)


if __name__ == "__main__":
    unittest.main()
