"""The texts of point 18 by regular expressions, to hold the library against."""

import re

WORD = "[A-Za-z]{1,8}"
NUMBER = "(?:0|-?[1-9][0-9]*)"
INDEX = re.compile(rf"(?P<step>-?(?:[2-9]|[1-9][0-9]+)?)i(?P<shift>[+-][1-9][0-9]*)?|(?P<number>{NUMBER})")
ACCESS = re.compile(rf"({WORD})\[([^\]]*)\]")


def read_access(word):
    found = ACCESS.fullmatch(word)
    index = found and INDEX.fullmatch(found.group(2))
    if not index:
        raise ValueError(word)
    if index.group("number"):
        return found.group(1), 0, int(index.group("number"))
    step = {"": 1, "-": -1}.get(index.group("step")) or int(index.group("step"))
    return found.group(1), step, int(index.group("shift") or 0)


def read_parts(text):
    """The parts that the text of a program tells; raises ValueError if it is not written as one."""
    lines = text.split("\n")
    if not re.fullmatch(rf"arrays {WORD} {NUMBER}(?:, {WORD} {NUMBER})*", lines[0]):
        raise ValueError(lines[0])
    arrays = tuple((pair.split(" ")[0], int(pair.split(" ")[1])) for pair in lines[0][7:].split(", "))
    outputs = ()
    if re.fullmatch(rf"outputs {WORD}(?: {WORD})*", lines[-1]):
        outputs = tuple(lines.pop().split(" ")[1:])
    loops = []
    for line in lines[1:]:
        if re.fullmatch(f"loop {NUMBER}", line):
            loops.append((int(line[5:]), ()))
        else:
            target, sign, *reads = line.split(" ") + [""] * (" " not in line)
            if sign != "=" or not loops:
                raise ValueError(line)
            statement = read_access(target) + (tuple(read_access(read) for read in reads),)
            loops[-1] = (loops[-1][0], loops[-1][1] + (statement,))
    return arrays, tuple(loops), outputs


def read_walks(text):
    if not re.fullmatch(r"(?:forward|backward) [124](?:\n(?:forward|backward) [124])*", text):
        raise ValueError(text)
    return tuple((line.split(" ")[0], int(line.split(" ")[1])) for line in text.split("\n"))


def read_places(text):
    """The places that the text of a placement tells, in its order; raises ValueError if it is not written as one."""
    found = []
    for line in text.split("\n"):
        parts = re.fullmatch(rf"({WORD}) ({NUMBER}) (?:(up|down)|ring ([1-8]))", line)
        if not parts:
            raise ValueError(line)
        found.append((parts.group(1), int(parts.group(2)), parts.group(3) or ("ring", int(parts.group(4)))))
    return tuple(found)


def edited(rng, text):
    """A text that differs in one or two places."""
    for _ in range(rng.choice((1, 1, 2))):
        at = rng.randrange(len(text) + 1)
        piece = rng.choice(("", "", " ", "\n", "0", "1", "2", "3", "i", "-", "+", "=", "[", "]", ",", "A", "up", "loop ",
                            text[max(0, at - 6):at]))
        text = text[:at] + piece + text[at + rng.choice((0, 0, 1, 1, 2)):]
    return text
