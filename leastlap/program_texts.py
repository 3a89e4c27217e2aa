"""The texts of programs, as tuples of their parts."""

from leastlap.errors import InvalidText
from leastlap.numerals import number_text, read_number


def program_text(arrays, loops, outputs):
    """The text of a program with these parts."""
    lines = ["arrays " + ", ".join([f"{name} {number_text(size)}" for name, size in arrays])]
    for count, statements in loops:
        lines.append("loop " + number_text(count))
        lines.extend([statement_text(statement) for statement in statements])
    if outputs:
        lines.append("outputs " + " ".join(outputs))
    return "\n".join(lines)


def statement_text(statement):
    """The line of a statement."""
    name, c, d, reads = statement
    words = [access_text(name, c, d), "="]
    for read_name, read_c, read_d in reads:
        words.append(access_text(read_name, read_c, read_d))
    return " ".join(words)


def access_text(name, c, d):
    """What is written or read: the name of an array, and an index."""
    return f"{name}[{index_text(c, d)}]"


def index_text(c, d):
    """The index c i + d."""
    if c == 0:
        return number_text(d)
    if d == 0:
        return step_text(c)
    sign = "+" if d > 0 else ""
    return step_text(c) + sign + number_text(d)


def step_text(c):
    """The part c i of an index, c being not 0."""
    if c == 1:
        return "i"
    if c == -1:
        return "-i"
    return number_text(c) + "i"


def read_program(text):
    """The arrays, loops and outputs that a string tells; raises InvalidText() if it tells none.

    They need not be those of a program, and many strings that are not written just so are taken, too: whoever calls
    this has to compare the string with the text of what it tells.
    """
    lines = text.split("\n")
    arrays = [read_array(part) for part in lines[0].removeprefix("arrays ").split(", ")]
    outputs = []
    if lines[-1].startswith("outputs "):
        outputs = lines.pop().removeprefix("outputs ").split(" ")
    return tuple(arrays), read_loops(lines[1:]), tuple(outputs)


def read_array(part):
    """The name and the size of an array."""
    name, _, size = part.partition(" ")
    return name, read_number(size)


def read_loops(lines):
    """The loops that some lines tell."""
    loops = []
    for line in lines:
        if line.startswith("loop "):
            loops.append((read_number(line.removeprefix("loop ")), []))
        elif loops:
            loops[-1][1].append(read_statement(line))
        else:
            raise InvalidText()
    return tuple([(count, tuple(statements)) for count, statements in loops])


def read_statement(line):
    """The statement that a line tells."""
    words = line.split(" ")
    name, c, d = read_access(words[0])
    return name, c, d, tuple([read_access(word) for word in words[2:]])


def read_access(word):
    """The name, and the c and the d of an index."""
    name, _, rest = word.partition("[")
    c, d = read_index(rest.removesuffix("]"))
    return name, c, d


def read_index(word):
    """The c and the d of an index."""
    step, mark, shift = word.partition("i")
    if mark == "":
        return 0, read_number(step)
    if shift == "":
        return read_step(step), 0
    return read_step(step), read_number(shift.removeprefix("+"))


def read_step(word):
    """The c that stands ahead of an i."""
    if word == "":
        return 1
    if word == "-":
        return -1
    return read_number(word)
