"""The console: the examples, each kind of line, each refusal, and that a refused line changes nothing."""

import random
import unittest
from collections import Counter

from leastlap.console import Console
from leastlap.distances import Distances
from leastlap.errors import InvalidCommand, LapError, Late, NoMemory
from leastlap.judging import is_right, judge
from leastlap.memory import least_memory
from leastlap.placements import Placement
from leastlap.programs import Program
from leastlap.rings import lanes, rings
from leastlap.schedules import Schedule

from tests.longs import random_long
from tests.samples import JUNK, MOST, ROW, STRIP_PARTS, deep_value

ROW_LINE = ("program arrays A 12, B 10, C 20 / loop 10 / B[i] = A[i] A[i+1] A[i+2] / loop 10 / C[2i] = B[i] / C[2i+1] = B[i]"
            " / outputs C")
STATE = ("show", "schedule", "placement")


def line_of(program):
    return "program " + program.text.replace("\n", " / ")


class Case(unittest.TestCase):
    def console(self, line=ROW_LINE):
        console = Console()
        self.assertEqual(console.say(line), "ok")
        return console

    def hold(self, console, *rows):
        for line, want in rows:
            self.assertEqual(console.say(line), want, line)

    def refuse(self, console, *lines):
        """Lines that are none, and change nothing."""
        before = [console.say(line) for line in STATE]
        for line in lines:
            with self.assertRaises(InvalidCommand) as caught:
                console.say(line)
            self.assertEqual(vars(caught.exception), {}, line)
            self.assertEqual([console.say(known) for known in STATE], before, line)


class ExamplesTest(Case):
    def test_session(self):
        console = Console()
        self.assertEqual(console.say(ROW_LINE), "ok")
        self.assertEqual([console.say(line) for line in ("size", "least", "loop 0 backward 1", "least", "place B 1 up",
                                                         "judge", "distance A B")],
                         ["42", "22", "ok", "20", "ok", "wrong A[10] finds B[9]", "bad"])

    def test_interface(self):
        self.assertIn("say", vars(Console))
        self.assertEqual(Console.__module__, "leastlap.console")
        self.assertEqual(Console().say(line=ROW_LINE), "ok")
        self.assertIs(issubclass(InvalidCommand, LapError), True)


class LinesTest(Case):
    def test_program(self):
        console = self.console()
        self.hold(console, ("show", ROW_LINE.removeprefix("program ")), ("schedule", "forward 1 / forward 1"),
                  ("placement", "A 0 up / B 12 up / C 22 up"), ("size", "42"), ("judge", "right"))
        self.hold(console, ("loop 0 backward 2", "ok"), ("place A 100 down", "ok"), ("schedule", "backward 2 / forward 1"))
        # Another program takes the place of the first one, with all that is told of it.
        small = "program arrays A 1, Z 3 / loop 1 / A[0] ="
        self.hold(console, (small, "ok"), ("show", small.removeprefix("program ")), ("schedule", "forward 1"),
                  ("placement", "A 0 up / Z 1 up"), ("size", "4"), (ROW_LINE, "ok"), ("schedule", "forward 1 / forward 1"))

    def test_all_kinds_of_indices(self):
        text = ("arrays A 30, B 30, C 4 / loop 1 / B[7] = A[0] A[-i+7] A[3i+2] / loop 4 / B[-3i+20] = A[i] A[2i+1] A[-2i+9] /"
                " C[i] = B[-3i+20] / outputs A C")
        console = self.console("program " + text)
        self.hold(console, ("show", text), ("size", "64"))

    def test_loop(self):
        console = self.console()
        for number in (0, 1):
            for direction in ("backward", "forward"):
                for count in (1, 2, 4):
                    self.hold(console, (f"loop {number} {direction} {count}", "ok"))
                    self.assertEqual(console.say("schedule").split(" / ")[number], f"{direction} {count}")

    def test_late(self):
        console = self.console("program arrays A 9 / loop 1 / A[0] = / loop 8 / A[i+1] = A[i] / outputs A")
        self.hold(console, ("loop 1 backward 1", "late"), ("loop 1 forward 2", "late"), ("loop 1 backward 4", "late"),
                  ("schedule", "forward 1 / forward 1"), ("loop 0 backward 4", "ok"), ("loop 1 forward 4", "late"),
                  ("schedule", "backward 4 / forward 1"), ("lanes 1", "1"), ("lanes 0", "1 2 4"))

    def test_place(self):
        console = self.console()
        self.hold(console, ("place B 3 ring 2", "ok"), ("placement", "A 0 up / B 3 ring 2 / C 22 up"),
                  ("place C 19 down", "ok"), ("placement", "A 0 up / B 3 ring 2 / C 19 down"), ("size", "20"),
                  ("place A 0 up", "ok"), ("place A 0 ring 8", "ok"), ("place A 11 down", "ok"), ("size", "20"))

    def test_below(self):
        console = self.console()
        for line in ("place A -1 up", "place A 10 down", "place C 18 down", "place B -1 ring 3", "place A -" + "9" * 40 + " up"):
            self.hold(console, (line, "below"), ("placement", "A 0 up / B 12 up / C 22 up"))
        self.hold(console, ("place A 11 down", "ok"), ("place A 10 down", "below"), ("placement", "A 11 down / B 12 up / C 22 up"))

    def test_judge(self):
        console = self.console()
        self.hold(console, ("place C 0 up", "ok"), ("place A 8 up", "ok"), ("place B 10 up", "ok"),
                  ("judge", "wrong A[2] finds B[0]"), ("loop 0 backward 1", "ok"), ("judge", "right"), ("size", "20"),
                  ("place B 9 up", "ok"), ("judge", "wrong A[10] finds B[9]"))

    def test_rings_and_lanes(self):
        console = self.console(line_of(Program(*STRIP_PARTS)))
        self.hold(console, ("rings T", "1 2 3 4 5 6 7 8"), ("rings Z", "5 6 7 8"), ("lanes 0", "1 2 4"), ("lanes 1", "1"),
                  ("place T 0 up", "ok"), ("place X 0 up", "ok"), ("lanes 1", "none"))
        console = self.console()
        self.hold(console, ("rings B", "none"), ("lanes 0", "1 2 4"), ("place C 2 up", "ok"), ("lanes 1", "1"),
                  ("place C 12 up", "ok"), ("lanes 1", "none"),
                  ("place C 22 up", "ok"), ("lanes 1", "1 2 4"))

    def test_distance(self):
        console = self.console()
        self.hold(console, ("distance A B", "good"), ("distance B A", "good"), ("place B 11 up", "ok"), ("distance A B", "bad"),
                  ("distance B A", "bad"), ("place B 11 ring 1", "ok"), ("distance B A", "bad"), ("loop 0 backward 1", "ok"),
                  ("distance B A", "good"), ("place B 0 up", "ok"), ("distance B A", "bad"), ("distance A C", "good"))

    def test_least_and_take(self):
        console = self.console()
        self.hold(console, ("least", "22"), ("placement", "A 0 up / B 12 up / C 22 up"), ("take", "22"), ("size", "22"),
                  ("judge", "right"), ("least", "22"), ("loop 0 backward 2", "ok"), ("take", "20"), ("size", "20"),
                  ("judge", "right"), ("place A 50 down", "ok"), ("place B 60 down", "ok"), ("place C 70 down", "ok"))
        told = least_memory(Schedule.plain(ROW).with_walk(0, "backward", 2), tuple((name, "down") for name in "ABC"))
        self.hold(console, ("take", str(told[0])), ("placement", told[1].text.replace("\n", " / ")))

    def test_none(self):
        """With a ring that is not right, there is no least memory, and nothing is taken."""
        console = self.console()
        self.hold(console, ("place B 12 ring 5", "ok"), ("least", "none"), ("take", "none"),
                  ("placement", "A 0 up / B 12 ring 5 / C 22 up"), ("judge", "wrong B[0] finds B[5]"))

    def test_great_numbers(self):
        console = self.console(f"program arrays A {MOST}, B {MOST} / loop {MOST} / B[-i+{MOST - 1}] = A[-i+{MOST - 1}] / outputs B")
        self.hold(console, ("size", str(2 * MOST)), ("least", str(MOST)), ("take", str(MOST)), ("judge", "right"))
        far = "7" * 3900
        self.hold(console, (f"place A {far} up", "ok"), ("placement", f"A {far} up / B 0 up"), ("judge", "right"),
                  ("size", str(int(far) + MOST)), ("distance A B", "good"), ("least", str(MOST)),
                  (f"place A -{far} up", "below"), ("take", str(MOST)), ("size", str(MOST)))


class RefusedTest(Case):
    def test_no_program(self):
        console = Console()
        for line in STATE + ("judge", "size", "rings A", "lanes 0", "distance A B", "least", "take", "loop 0 forward 1",
                             "place A 0 up", "program", "program ", "", " ", "x"):
            with self.assertRaises(InvalidCommand):
                console.say(line)
        self.assertEqual(console.say(ROW_LINE), "ok")

    def test_texts(self):
        console = self.console()
        text = ROW_LINE.removeprefix("program ")
        self.refuse(console, "program", "program ", "program  " + text, "program " + text + " ", "program " + text + " / ",
                    "program / " + text, "program " + text.replace(" / ", "/"), "program " + text.replace(" / ", " /"),
                    "program " + text.replace(" / ", "  /  "), "program " + text.replace(" / ", "\n"), " program " + text,
                    "Program " + text, text, "program " + text.replace("A 12", "A 11"), "program " + text.replace("A 12", "A 012"),
                    "program " + text.replace("i+1", "1i+1"), "program " + text.replace("A 12, B 10", "B 10, A 12"),
                    "program " + text.replace("outputs C", "outputs"), "program " + text.replace("outputs C", "outputs D"),
                    "program " + text + " B", "program " + text.replace("loop 10", "loop 11"), "programs " + text,
                    "program arrays A 1 / loop 1 / A[0] = \n", "program arrays A 1 / loop 1 / A[0] = / A[0] =")

    def test_forms(self):
        console = self.console()
        self.refuse(console, "", " ", "x", "Judge", "judge ", " judge", "judge A", "size 1", "show  ", "show\n", "\nshow",
                    "judge\nsize", "schedule 0", "placement A", "least 1", "take 1", "least  ", "rings", "rings ", "rings A B",
                    "lanes", "lanes ", "lanes 0 1", "distance", "distance A", "distance A B C", "distance A  B", "loop", "loop 0",
                    "loop 0 forward", "loop 0 forward 1 1", "loop  0 forward 1", "place", "place A", "place A 0",
                    "place A 0 up up", "place  A 0 up", "place A 0 ring", "place A 0 ring 1 1", "place A 0 ring  1",
                    "place A 0 up ", "quit", "help", "show A 0 up", "size A 0 up", "rings A 0 up", "distance A 0 up",
                    "Place A 0 up", "A 0 up", "lanes A 0 ring 1", " A 0 up")

    def test_numbers(self):
        console = self.console()
        self.refuse(console, "loop 2 forward 1", "loop -1 forward 1", "loop 00 forward 1", "loop +0 forward 1",
                    "loop -0 forward 1", "loop A forward 1", "loop 0 forward 3", "loop 0 forward 0", "loop 0 forward 01",
                    "loop 0 forward 8", "loop 0 forward -1", "loop 0 forward x", "loop 0 forward 1.0", "lanes 2", "lanes -1",
                    "lanes 01", "lanes A", "lanes 1_0", "place A 00 up", "place A 01 up", "place A +1 up", "place A -0 up",
                    "place A 1x up", "place A  up", "place A - up", "place A 0 ring 0", "place A 0 ring 9", "place A 0 ring 01",
                    "place A 0 ring -1", "place A 0 ring x", "loop " + "9" * 3000 + " forward 1", "place A 1e3 up")

    def test_words(self):
        console = self.console()
        self.refuse(console, "loop 0 Forward 1", "loop 0 up 1", "loop 0 f 1", "place A 0 Up", "place A 0 left", "place A 0 rings 1",
                    "place A 0 ring1", "place D 0 up", "place a 0 up", "rings D", "rings a", "rings 0", "distance A D",
                    "distance D A", "distance A A", "distance D D", "distance 0 1", "place A 0 forward")

    def test_least_beyond_the_limits(self):
        """At most four arrays and one ring, strides up to 2, one or two lanes."""
        arrays = "arrays A 9, B 9, C 9, D 9, E 9 / loop 9 / A[i] = B[i]"
        console = self.console("program " + arrays)
        self.refuse(console, "least", "take")
        console = self.console("program " + arrays.replace(", E 9", ""))
        # B and the two other inputs are written ahead of its uses, so that they have to lie apart.
        self.hold(console, ("least", "18"), ("place A 0 ring 1", "ok"), ("least", "18"), ("place C 10 ring 2", "ok"))
        self.refuse(console, "least", "take")
        self.hold(console, ("place C 10 up", "ok"), ("loop 0 backward 2", "ok"), ("least", "18"), ("loop 0 backward 4", "ok"))
        self.refuse(console, "least", "take")
        for statement, is_in in (("A[2i] = B[i]", True), ("A[-2i+8] = B[-2i+8]", True), ("A[3i] = B[i]", False),
                                 ("A[-3i+12] = B[i]", False), ("A[i] = B[3i]", False), ("A[i] = B[i] B[i] B[-3i+12]", False),
                                 ("A[i] = B[0]", True)):
            console = self.console(f"program arrays A 13, B 13 / loop 5 / {statement}")
            if is_in:
                least = least_memory(console.schedule, (("A", "up"), ("B", "up")))[0]
                self.hold(console, ("least", str(least)), ("take", str(least)))
            else:
                self.refuse(console, "least", "take")
        console = self.console("program arrays A 13, B 13 / loop 1 / A[3i] = B[i] / loop 1 / A[1] = B[3i]")
        self.refuse(console, "least", "take")

    def test_any_values(self):
        console = self.console()
        self.refuse(console, *[thing for thing in JUNK if thing not in STATE], deep_value(40), ROW, console, ["judge"],
                    ("judge",), b"judge", 0, "x" * 4000, "judge " * 600, "program " + "a" * 3000)


def greatest_stride(program):
    return max(abs(c) for _, statements in program.loops for row in statements for c in [row[1]] + [read[1] for read in row[3]])


class SessionsTest(Case):
    def test_random_sessions(self):
        """Against the library itself, line by line."""
        rng, seen = random.Random(111), Counter()
        for _ in range(60):
            program, _ = random_long(rng, rng.choice((4, 9, 1000)))
            while greatest_stride(program) > 2 and rng.random() < 0.8:
                program, _ = random_long(rng, rng.choice((4, 9, 1000)))
            console = self.console(line_of(program))
            schedule, placement = Schedule.plain(program), Placement.apart(program)
            names = [name for name, _ in program.arrays]
            for _ in range(15):
                number, name = rng.randrange(len(program.loops)), rng.choice(names)
                direction, count = rng.choice(("forward", "backward")), rng.choice((1, 2, 2, 4))
                try:
                    schedule, want = schedule.with_walk(number, direction, count), "ok"
                except Late:
                    want = "late"
                self.hold(console, (f"loop {number} {direction} {count}", want))
                seen[want] += 1
                first, layout = rng.randint(0, 20), rng.choice(("up",) * 9 + ("ring 1", "ring 3", "ring 8"))
                places = {place[0]: place for place in placement.places}
                places[name] = name, first, layout if layout == "up" else ("ring", int(layout[5:]))
                placement = Placement(program, *places.values())
                self.hold(console, (f"place {name} {first} {layout}", "ok"))
                self.hold_state(console, schedule, placement, rng.sample(names, min(2, len(names))), number, seen)
                if rng.random() < 0.2:
                    placement = self.hold_take(console, schedule, placement, seen)
        self.assertGreater(min(seen[key] for key in ("ok", "late", "right", "wrong", "good", "bad", "none", "took", "refused")), 3,
                           seen)

    def hold_state(self, console, schedule, placement, names, number, seen):
        told = judge(schedule, placement)
        judged = told[0] if len(told) == 1 else "wrong {}[{}] finds {}[{}]".format(*told[2], *told[3])
        self.hold(console, ("judge", judged), ("size", str(placement.size)),
                  ("rings " + names[0], " ".join(map(str, rings(schedule, names[0]))) or "none"),
                  (f"lanes {number}", " ".join(map(str, lanes(schedule, placement, number))) or "none"),
                  ("show", schedule.program.text.replace("\n", " / ")), ("schedule", schedule.text.replace("\n", " / ")),
                  ("placement", placement.text.replace("\n", " / ")))
        seen[told[0]] += 1
        if len(names) == 2:
            (first, layout), (second, other_layout) = placement[names[0]], placement[names[1]]
            good = Distances(schedule, names[0], layout, names[1], other_layout).is_good(first - second)
            self.hold(console, (f"distance {names[0]} {names[1]}", "good" if good else "bad"))
            seen["good" if good else "bad"] += 1

    def hold_take(self, console, schedule, placement, seen):
        layouts = tuple((name, layout) for name, _, layout in placement.places)
        ringed = [layout for _, layout in layouts if layout != "up"]
        if len(layouts) > 4 or len(ringed) > 1 or greatest_stride(schedule.program) > 2 or 4 in [
                count for _, count in schedule.walks]:
            self.refuse(console, "least", "take")
            seen["refused"] += 1
            return placement
        try:
            size, taken = least_memory(schedule, layouts)
        except NoMemory:
            self.hold(console, ("least", "none"), ("take", "none"))
            seen["none"] += 1
            return placement
        self.hold(console, ("least", str(size)), ("take", str(size)), ("size", str(size)))
        self.assertIs(is_right(schedule, taken), True)
        seen["took"] += 1
        return taken


if __name__ == "__main__":
    unittest.main()
