"""A console: lines that change a program's schedule and placement, or ask about them."""

from leastlap.accesses import all_accesses
from leastlap.distances import Distances
from leastlap.errors import InvalidCommand, InvalidText, Late, NoMemory, NoPlacement
from leastlap.judging import judge
from leastlap.layouts import read_layout
from leastlap.memory import least_memory
from leastlap.numerals import number_text, read_number
from leastlap.placements import Placement
from leastlap.programs import Program
from leastlap.rings import lanes, rings
from leastlap.schedules import Schedule, is_walk

# What least_memory is made for; the console does not ask it for more.
MOST_ARRAYS = 4
MOST_RINGS = 1
GREATEST_C = 2
MOST_LANES = 2

LINE_END = " / "


def one_line(text):
    """A text in one line."""
    return text.replace("\n", LINE_END)


def element_text(element):
    """An element as the console tells it."""
    name, index = element
    return f"{name}[{number_text(index)}]"


def numbers_text(numbers):
    """Numbers, joined by blanks."""
    return " ".join([number_text(number) for number in numbers]) or "none"


def is_in_limits(schedule, placement):
    """Whether least_memory is made for a schedule with the layouts of a placement."""
    program = schedule.program
    in_rings = [name for name, first, layout in placement.places if not isinstance(layout, str)]
    if len(program.arrays) > MOST_ARRAYS or len(in_rings) > MOST_RINGS:
        return False
    if max([count for direction, count in schedule.walks]) > MOST_LANES:
        return False
    return all([abs(line[0]) <= GREATEST_C for place, name, line in all_accesses(program.loops)])


class Console:
    """Takes lines and returns texts; it has no program at first."""

    def __init__(self):
        self.program = None
        self.schedule = None
        self.placement = None

    def say(self, line):
        """What the console answers to a line; raises InvalidCommand() for any value that is none."""
        if not isinstance(line, str) or "\n" in line:
            raise InvalidCommand()
        word, _, text = line.partition(" ")
        try:
            if word == "program":
                return self.change_program(text)
            if self.program is None:
                raise InvalidCommand()
            return self.answer(line.split(" "))
        except InvalidText:
            raise InvalidCommand() from None

    def answer(self, words):
        """What it answers to the words of a line, with a program."""
        name, *rest = words
        if name == "loop" and len(rest) == 3:
            return self.change_loop(rest[0], rest[1], rest[2])
        if name == "place" and len(rest) in (3, 4):
            return self.change_place(rest[0], rest[1], " ".join(rest[2:]))
        if name == "distance" and len(rest) == 2:
            return self.tell_distance(rest[0], rest[1])
        if name == "rings" and len(rest) == 1:
            self.check_array(rest[0])
            return numbers_text(rings(self.schedule, rest[0]))
        if name == "lanes" and len(rest) == 1:
            return numbers_text(lanes(self.schedule, self.placement, self.loop_number(rest[0])))
        if rest:
            raise InvalidCommand()
        return self.tell(name)

    def tell(self, word):
        """What it answers to a line of one word."""
        if word == "judge":
            return self.tell_judgement()
        if word == "size":
            return number_text(self.placement.size)
        if word == "least":
            return self.tell_least(False)
        if word == "take":
            return self.tell_least(True)
        if word == "show":
            return one_line(self.program.text)
        if word == "schedule":
            return one_line(self.schedule.text)
        if word == "placement":
            return one_line(self.placement.text)
        raise InvalidCommand()

    def check_array(self, name):
        """Raise InvalidCommand if no array has a name."""
        if name not in self.program:
            raise InvalidCommand()

    def loop_number(self, word):
        """The number of a loop that a word tells."""
        number = read_number(word)
        if not 0 <= number < len(self.program.loops):
            raise InvalidCommand()
        return number

    def change_program(self, text):
        """Take the program with a text."""
        program = Program.read(text.replace(LINE_END, "\n"))
        self.program = program
        self.schedule = Schedule.plain(program)
        self.placement = Placement.apart(program)
        return "ok"

    def change_loop(self, word, direction, count):
        """Have a loop go in another direction, with other lanes, if no use is late then."""
        number = self.loop_number(word)
        walk = direction, read_number(count)
        if not is_walk(walk):
            raise InvalidCommand()
        try:
            self.schedule = self.schedule.with_walk(number, walk[0], walk[1])
        except Late:
            return "late"
        return "ok"

    def change_place(self, name, word, text):
        """Have an array lie elsewhere, if no cell is below 0 then."""
        self.check_array(name)
        place = name, read_number(word), read_layout(text)
        places = [place if other[0] == name else other for other in self.placement.places]
        try:
            self.placement = Placement(self.program, *places)
        except NoPlacement:
            return "below"
        return "ok"

    def tell_judgement(self):
        """Whether the placement is right, or what the first use finds that finds another element than its own."""
        told = judge(self.schedule, self.placement)
        if told == ("right",):
            return "right"
        _, _, element, found = told
        return f"wrong {element_text(element)} finds {element_text(found)}"

    def tell_distance(self, one, other):
        """Whether the distance that two arrays have is good."""
        self.check_array(one)
        self.check_array(other)
        if one == other:
            raise InvalidCommand()
        first, layout = self.placement[one]
        second, other_layout = self.placement[other]
        distances = Distances(self.schedule, one, layout, other, other_layout)
        return "good" if distances.is_good(first - second) else "bad"

    def tell_least(self, is_taken):
        """The least memory with the present layouts; if it is to be taken, the placement is one of this size then."""
        if not is_in_limits(self.schedule, self.placement):
            raise InvalidCommand()
        layouts = tuple([(name, layout) for name, first, layout in self.placement.places])
        try:
            cells, placement = least_memory(self.schedule, layouts)
        except NoMemory:
            return "none"
        if is_taken:
            self.placement = placement
        return number_text(cells)
