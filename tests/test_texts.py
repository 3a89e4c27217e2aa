"""The texts of programs, schedules and placements, and what is none."""

import random
import unittest

from leastlap.errors import InvalidText, Late
from leastlap.numerals import number_text, read_number
from leastlap.placements import Placement
from leastlap.program_texts import index_text
from leastlap.programs import Program
from leastlap.schedules import Schedule

from tests.reading import edited, read_parts, read_places, read_walks
from tests.samples import (BACK, FOUR, JUNK, MOST, NINETEEN, PLAIN, ROW, STRIP_PARTS, TIGHT, deep_value, fault_of,
                           random_parts, random_walks)

COPY = "arrays A 5, B 5\nloop 5\nB[i] = A[i]\noutputs B"
NOT_A_TEXT = ("InvalidText",)


def with_index(index):
    return f"arrays A 100, B 1\nloop 1\nB[0] = A[{index}]"


class NumbersTest(unittest.TestCase):
    def test_there_and_back(self):
        rng = random.Random(5)
        numbers = list(range(-30, 31)) + [sign * (10 ** power + more) for power in (17, 18, 19, 35, 36, 37, 54, 600)
                                          for sign in (-1, 1) for more in (-1, 0, 1)]
        for number in numbers + [rng.randrange(10 ** rng.randint(1, 200)) for _ in range(300)]:
            self.assertEqual(number_text(number), str(number))
            self.assertEqual(read_number(str(number)), number)

    def test_longer_than_python_converts_at_once(self):
        text = "-7" + "0123456789" * 1000
        self.assertEqual(number_text(read_number(text)), text)

    def test_no_numbers(self):
        for text in ("", "-", "-0", "00", "01", "-01", "+1", " 1", "1 ", "1_0", "1.0", "1e3", "--1", "a", "1-", "\n1",
                     "\u0661", "\u00b2"):
            self.assertEqual(fault_of(read_number, text), NOT_A_TEXT, text)


class ProgramTextsTest(unittest.TestCase):
    def no(self, *texts):
        for text in texts:
            self.assertEqual(fault_of(Program.read, text), NOT_A_TEXT, text)

    def test_there_and_back(self):
        for program in (ROW, Program(*STRIP_PARTS)):
            self.assertEqual(Program.read(program.text), program)

    def test_strip(self):
        self.assertEqual(Program(*STRIP_PARTS).text, "arrays A 5, T 6, X 16, Z 5\nloop 1\nT[i] =\nX[i] =\nloop 5\n"
                                                     "Z[i] = T[i] X[3i]\nT[i+1] = A[i]\nX[3i+3] = A[i]\noutputs Z")

    def test_indices(self):
        for c, d, index in ((0, 0, "0"), (0, 7, "7"), (1, 0, "i"), (-1, 0, "-i"), (2, 0, "2i"), (-3, 0, "-3i"),
                            (1, 7, "i+7"), (-1, 7, "-i+7"), (2, 7, "2i+7"), (-3, 12, "-3i+12"), (3, 99, "3i+99")):
            program = Program((("A", 100), ("B", 1)), ((1, (("B", 0, 0, (("A", c, d),)),)),))
            self.assertEqual(program.text, with_index(index))
            self.assertEqual(Program.read(with_index(index)), program)
        turned = Program((("A", 7),), ((2, (("A", -1, 6, ()),)),))
        self.assertEqual(turned.text, "arrays A 7\nloop 2\nA[-i+6] =")
        self.assertEqual(Program.read(turned.text), turned)

    def test_negative_shifts(self):
        """A shift below 0 is never that of an element that exists, so that no text of a program has one."""
        self.assertEqual([index_text(c, -7) for c in (0, 1, -1, 2, -3)], ["-7", "i-7", "-i-7", "2i-7", "-3i-7"])
        self.no(with_index("-7"), with_index("i-7"), with_index("-i-7"), with_index("3i-7"))
        self.no(with_index("i+" + str(NINETEEN)), with_index("-" + str(NINETEEN)))

    def test_other_ways_to_write_an_index(self):
        self.no(*[with_index(index) for index in (
            "1i", "-1i", "0i", "0i+7", "+i", "i+0", "i-0", "i+07", "i++7", "i+-7", "i+ 7", "i +7", " i", "i ", "7+i", "+7", "07",
            "-0", "", "2*i", "4i", "-4i", "i7", "ii", "02i", "2i+", "2i-", "i+1_0", "I", "(i)", "i]", "[i", "--i", "2i+7i",
            "00", "1.0", "- i", "-07")])

    def test_other_ways_to_write_a_line(self):
        self.assertIsNone(fault_of(Program.read, COPY))
        for old, new in (("arrays ", "arrays  "), ("arrays ", "array "), ("arrays ", "Arrays "), ("arrays A", " arrays A"),
                         ("A 5, B", "A 5,B"), ("A 5, B", "A 5,  B"), ("A 5, B", "A 5 , B"), ("A 5, B", "A 5 B"),
                         ("A 5, B 5", "B 5, A 5"), ("A 5, B 5", "A 5"), ("A 5", "A 05"), ("A 5", "A  5"), ("A 5", "A5"),
                         ("A 5", "A"), ("B 5\n", "B 5 \n"), ("B 5\n", "B 5, \n"), ("B 5\n", "B 5,\n"),
                         ("B 5\n", "B 5, A 5\n"), ("B 5\n", "B 5\n\n"), ("loop 5", "loop  5"), ("loop 5", "loop 5 "),
                         ("loop 5", "loop"), ("loop 5", "loop "), ("loop 5", "loop 0"), ("loop 5", "loop 05"),
                         ("loop 5", "loop +5"), ("loop 5", "loop five"), ("loop 5", "loop 5\nloop 5"), ("loop 5\n", ""),
                         ("B[i] = A[i]", "B[i] = A[i] "), ("B[i] = A[i]", "B[i] =  A[i]"), ("B[i] = A[i]", " B[i] = A[i]"),
                         ("B[i] = A[i]", "B[i]= A[i]"), ("B[i] = A[i]", "B[i] =A[i]"), ("B[i] = A[i]", "B[i] A[i]"),
                         ("B[i] = A[i]", "B[i] = "), ("B[i] = A[i]", "B[i]"), ("B[i] = A[i]", "= A[i]"), ("B[i] = A[i]", ""),
                         ("B[i] = A[i]", "B[i] = A[i], A[i]"), ("B[i] = A[i]", "B[i] = = A[i]"), ("B[i] = A[i]\n", ""),
                         ("B[i] = A[i]", "B [i] = A[i]"), ("B[i] = A[i]", "B(i) = A[i]"), ("B[i] = A[i]", "B[i] := A[i]"),
                         ("B[i] = A[i]", "B[i] = A[i]x"), ("B[i] = A[i]", "B[i] = A"), ("B[i] = A[i]", "B[i] = A[i"),
                         ("outputs B", "outputs"), ("outputs B", "outputs "), ("outputs B", "outputs B "),
                         ("outputs B", "outputs  B"), ("outputs B", "outputs B A"), ("outputs B", "outputs B B"),
                         ("outputs B", "outputs A, B"), ("outputs B", "outputs C"), ("outputs B", "outputs B\n"),
                         ("outputs B", "outputs B\noutputs B"), ("outputs B", "output B"), ("outputs B", "")):
            self.assertIn(old, COPY)
            self.no(COPY.replace(old, new))
        self.no("", "\n", COPY + "\n", "\n" + COPY, COPY + " ", "outputs B\n" + COPY, COPY.replace("\n", " / "), "arrays A 5")

    def test_lines_that_may_stand(self):
        for text in (COPY.replace("outputs B", "outputs A B"), COPY.replace("\noutputs B", ""),
                     COPY.replace("B[i] = A[i]", "B[i] ="), COPY.replace("= A[i]", "= A[i] A[-i+4] A[0]")):
            self.assertEqual(Program.read(text).text, text)

    def test_words_as_names(self):
        text = "arrays arrays 5, i 5, loop 5, outputs 5\nloop 5\nloop[i] = arrays[i] i[i]\noutputs[i] =\noutputs loop outputs"
        self.assertEqual(Program.read(text).text, text)
        self.assertEqual(Program.read(text).outputs, ("loop", "outputs"))
        self.assertEqual(Program.read(text.rpartition("\n")[0]).outputs, ())

    def test_texts_of_programs_with_faults(self):
        self.no(COPY.replace("A 5", "A 4"), COPY.replace("B 5", "B 6"), COPY.replace("A[i]", "B[i]"),
                COPY.replace("B[i] = A[i]", "B[i] = A[i]\nB[i] ="), COPY.replace("B[i]", "B[4]"))

    def test_bounds(self):
        self.no(COPY.replace("A 5", f"A {MOST + 1}"), COPY.replace("loop 5", f"loop {MOST + 1}"),
                COPY.replace("A 5", "A " + "9" * 3900), COPY.replace("A[i]", f"A[i+{'9' * 3900}]"),
                COPY.replace("A 5", "ABCDEFGHI 5"), COPY.replace("A 5", "A1 5"), COPY.replace("A[i]", "A[i] A[i] A[i] A[i]"))
        text = COPY.replace("5", str(MOST))
        self.assertEqual(Program.read(text).text, text)

    def test_any_value(self):
        self.no(*JUNK, deep_value(40), COPY.encode(), [COPY], (COPY,), COPY.split("\n"), TIGHT.text, PLAIN.text, "x\n" * 2000)

    def test_edited_texts(self):
        rng = random.Random(18)
        outcomes = [0, 0]
        for _ in range(400):
            parts = random_parts(rng)
            if fault_of(Program, *parts):
                continue
            text = Program(*parts).text
            self.assertEqual(Program.read(text), Program(*parts))
            for _ in range(20):
                other = edited(rng, text)
                try:
                    want = Program(*read_parts(other))
                except Exception:
                    want = None
                outcomes[want is None] += 1
                if want is None:
                    self.no(other)
                else:
                    self.assertEqual(Program.read(other), want, other)
        self.assertGreater(min(outcomes), 200)


class ScheduleTextsTest(unittest.TestCase):
    def no(self, program, *texts):
        for text in texts:
            self.assertEqual(fault_of(Schedule.read, program, text), NOT_A_TEXT, text)

    def test_texts(self):
        self.assertEqual([PLAIN.text, BACK.text, FOUR.text],
                         ["forward 1\nforward 1", "backward 1\nforward 1", "forward 1\nforward 4"])
        for schedule in (PLAIN, BACK, FOUR):
            self.assertEqual(Schedule.read(ROW, schedule.text), schedule)
        self.assertEqual(Schedule.read(text="forward 2\nbackward 4", program=ROW).walks, (("forward", 2), ("backward", 4)))

    def test_no_texts(self):
        self.no(ROW, "", "forward 1", "forward 1\nforward 1\nforward 1", "forward 1\nforward 1\n", "\nforward 1\nforward 1",
                "forward 1\n\nforward 1", "forward 1 \nforward 1", " forward 1\nforward 1", "forward  1\nforward 1",
                "forward 3\nforward 1", "forward 0\nforward 1", "forward 8\nforward 1", "forward -1\nforward 1",
                "forward 01\nforward 1", "forward +1\nforward 1", "forward\nforward 1", "forward \nforward 1",
                "Forward 1\nforward 1", "back 1\nforward 1", "1 forward\nforward 1", "forward 1 / forward 1",
                "forward 1 1\nforward 1", "forward, 1\nforward 1", ROW.text, TIGHT.text)
        self.no(ROW, *JUNK, deep_value(40), PLAIN.walks, [PLAIN.text], PLAIN)

    def test_late_comes_behind(self):
        program = Program((("A", 5),), ((1, (("A", 1, 0, ()),)), (4, (("A", 1, 1, (("A", 1, 0),)),))))
        self.assertEqual(fault_of(Schedule.read, program, "forward 1\nbackward 1"), ("Late", ((1, 0, 0), 3)))
        self.no(program, "forward 1\nbackward 1\n", "forward 1\nbackward 1 ", "forward 0\nbackward 1", "forward 1\nbackward 3")

    def test_edited_texts(self):
        rng = random.Random(19)
        outcomes = [0, 0]
        for _ in range(300):
            parts = random_parts(rng)
            if fault_of(Program, *parts):
                continue
            program = Program(*parts)
            text = "\n".join(f"{direction} {lanes}" for direction, lanes in random_walks(rng, parts[1]))
            for other in [text] + [edited(rng, text) for _ in range(15)]:
                try:
                    want = Schedule(program, read_walks(other))
                except Late as error:
                    self.assertEqual(fault_of(Schedule.read, program, other), ("Late", error.use))
                    continue
                except Exception:
                    self.no(program, other)
                    outcomes[1] += 1
                    continue
                self.assertEqual(Schedule.read(program, other), want)
                self.assertEqual(Schedule.read(program, other).text, other)
                outcomes[0] += 1
        self.assertGreater(min(outcomes), 50)


class PlacementTextsTest(unittest.TestCase):
    def no(self, *texts):
        for text in texts:
            self.assertEqual(fault_of(Placement.read, ROW, text), NOT_A_TEXT, text)

    def test_texts(self):
        self.assertEqual(TIGHT.text, "A 8 up\nB 10 up\nC 0 up")
        mixed = Placement(ROW, ("C", 19, "down"), ("A", 0, ("ring", 8)), ("B", 10 ** 29, ("ring", 1)))
        self.assertEqual(mixed.text, f"A 0 ring 8\nB {10 ** 29} ring 1\nC 19 down")
        for placement in (TIGHT, mixed, Placement.apart(ROW)):
            self.assertEqual(Placement.read(ROW, placement.text), placement)
        self.assertEqual(Placement.read(text=TIGHT.text, program=ROW), TIGHT)

    def test_numbers_of_many_digits(self):
        text = f"A 8 up\nB {'123456789' * 430} down\nC 0 up"
        self.assertEqual(Placement.read(ROW, text).text, text)
        self.assertEqual(number_text(Placement.read(ROW, text).size), "123456789" * 429 + "123456790")
        self.assertEqual(number_text(Placement.read(ROW, text).cell(("B", 9))), "123456789" * 429 + "123456780")

    def test_no_texts(self):
        text = TIGHT.text
        for old, new in (("A 8 up", "A  8 up"), ("A 8 up", "A 8  up"), ("A 8 up", "A 8 up "), ("A 8 up", " A 8 up"),
                         ("A 8 up", "A 8"), ("A 8 up", "A 8 "), ("A 8 up", "A up 8"), ("A 8 up", "A up"), ("A 8 up", "8 up"),
                         ("A 8 up", "A 08 up"), ("A 8 up", "A -0 up"), ("A 8 up", "A +8 up"), ("A 8 up", "A -1 up"),
                         ("A 8 up", "A 10 down"), ("A 8 up", "A -8 ring 2"), ("A 8 up", "A 8 Up"), ("A 8 up", "A 8 left"),
                         ("A 8 up", "A 8 ring"), ("A 8 up", "A 8 ring 0"), ("A 8 up", "A 8 ring 9"), ("A 8 up", "A 8 ring 03"),
                         ("A 8 up", "A 8 ring  3"), ("A 8 up", "A 8 ring 3 "), ("A 8 up", "A 8 ring -3"),
                         ("A 8 up", "A 8 ring3"), ("A 8 up", "A 8 up 3"), ("A 8 up", "D 8 up"), ("A 8 up", "B 8 up"),
                         ("A 8 up\n", ""), ("A 8 up\n", "\n"), ("A 8 up", "A 8 up\nA 8 up"), ("\n", "\n\n"), ("\n", " / ")):
            self.assertIn(old, text)
            self.no(text.replace(old, new))
        self.no("B 10 up\nA 8 up\nC 0 up", "A 8 up\nC 0 up\nB 10 up", text + "\n", "\n" + text, text + "\nD 0 up", "")
        self.no(*JUNK, deep_value(40), TIGHT.places, [text], TIGHT, ROW.text, PLAIN.text)

    def test_just_below_and_just_above(self):
        self.assertIsNone(fault_of(Placement.read, ROW, "A 11 down\nB 0 ring 3\nC 0 up"))
        self.no("A 10 down\nB 0 ring 3\nC 0 up", "A 11 down\nB -1 ring 3\nC 0 up", "A 11 down\nB 0 ring 3\nC -1 up")

    def test_edited_texts(self):
        rng = random.Random(20)
        outcomes = [0, 0]
        for _ in range(3000):
            text = edited(rng, rng.choice((TIGHT.text, "A 30 down\nB 123 ring 7\nC 0 ring 2")))
            try:
                places = read_places(text)
                want = Placement(ROW, *places) if list(places) == sorted(places, key=lambda place: place[0]) else None
            except Exception:
                want = None
            outcomes[want is None] += 1
            if want is None:
                self.no(text)
            else:
                self.assertEqual(Placement.read(ROW, text), want)
        self.assertGreater(min(outcomes), 200)


class InvalidTextTest(unittest.TestCase):
    def test_class(self):
        for call in (lambda: Program.read(5), lambda: Schedule.read(ROW, 5), lambda: Placement.read(ROW, 5)):
            with self.assertRaises(InvalidText):
                call()


if __name__ == "__main__":
    unittest.main()
