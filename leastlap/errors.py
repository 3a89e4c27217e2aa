"""The errors of the library; what an error is created with are its attributes, too."""


class LapError(Exception):
    """The base class of all errors of the library."""


class NoProgram(LapError):
    """Of a program's arguments one is not as it has to be; part is its name."""

    def __init__(self, part):
        self.part = part


class Outside(LapError):
    """In iteration i a place writes or reads an element that does not exist."""

    def __init__(self, place, i):
        self.place = place
        self.i = i


class Twice(LapError):
    """A write writes an element that was written before."""

    def __init__(self, write):
        self.write = write


class Unwritten(LapError):
    """A use is one of an element that was not written before."""

    def __init__(self, use):
        self.use = use


class NoSchedule(LapError):
    """The walks are not those of a schedule of the program."""


class Late(LapError):
    """A use comes before the write of its element."""

    def __init__(self, use):
        self.use = use


class NoPlacement(LapError):
    """The places are not those of a placement of the program."""


class NoMemory(LapError):
    """No placement that fits is right; the answer tells why."""

    def __init__(self, answer):
        self.answer = answer


class InvalidText(LapError):
    """A value is not the text that is asked for."""


class InvalidCommand(LapError):
    """A value is no line that the console takes."""
