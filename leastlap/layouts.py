"""Layouts: in which cells the elements of an array lie, from its first cell on."""

from leastlap.checks import is_between, is_row
from leastlap.errors import InvalidText
from leastlap.numerals import number_text, read_number

GREATEST_RING = 8


def is_layout(thing):
    """Whether a value is a layout."""
    if isinstance(thing, str):
        return thing in ("up", "down")
    return is_row(thing, 2, 2) and thing[0] == "ring" and is_between(thing[1], 1, GREATEST_RING)


def offset_of(layout, index):
    """The cell of the element with an index, less the first cell."""
    if layout == "up":
        return index
    if layout == "down":
        return -index
    return index % layout[1]


def low_of(layout, size):
    """The least cell of an array, less the first one."""
    return 1 - size if layout == "down" else 0


def high_of(layout, size):
    """The greatest cell of an array, less the first one."""
    if layout == "up":
        return size - 1
    if layout == "down":
        return 0
    return min(layout[1], size) - 1


def layout_text(layout):
    """The text of a layout."""
    return layout if isinstance(layout, str) else f"ring {number_text(layout[1])}"


def read_layout(text):
    """The layout that a string tells; raises InvalidText() if it tells none."""
    layout = ("ring", read_number(text.removeprefix("ring "))) if text.startswith("ring ") else text
    if not is_layout(layout):
        raise InvalidText()
    return layout
