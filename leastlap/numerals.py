"""Numbers as texts have them: decimal, without leading zeros, of any number of digits."""

from leastlap.errors import InvalidText

# Python itself converts only so many digits at once, so that long numbers are converted piece by piece.
PIECE = 18
PIECE_WORTH = 10 ** 18


def number_text(number):
    """The text of an integer."""
    if number < 0:
        return "-" + number_text(-number)
    pieces = ""
    while number >= PIECE_WORTH:
        number, low = divmod(number, PIECE_WORTH)
        pieces = str(low).zfill(PIECE) + pieces
    return str(number) + pieces


def read_number(text):
    """The integer with a text; raises InvalidText() if a string is none."""
    digits = text.removeprefix("-")
    if not (digits.isascii() and digits.isdigit()):
        raise InvalidText()
    if digits.startswith("0") and text != "0":
        raise InvalidText()
    start = len(digits) % PIECE
    number = int("0" + digits[:start])
    for at in range(start, len(digits), PIECE):
        number = number * PIECE_WORTH + int(digits[at:at + PIECE])
    return -number if text.startswith("-") else number
