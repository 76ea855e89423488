"""Integers as decimal digits, and digits as integers."""

from armlegs.base.polys import int_power

DIGITS = "0123456789"
MOST_DIGITS = 60
# So many digits are written at once: Python itself does not write integers of thousands of digits.
PIECE = 500


def are_digits(text):
    """Whether the text has digits alone, at least one."""
    return len(text) > 0 and all([sign in DIGITS for sign in text])


def written_integer(number):
    """The decimal digits of an integer of any length, with - ahead if it is below 0."""
    whole = int_power(10, PIECE)
    left = abs(number)
    pieces = []
    while left >= whole:
        left, rest = divmod(left, whole)
        pieces.append(str(rest).zfill(PIECE))
    pieces.append(str(left))
    sign = "-" if number < 0 else ""
    return sign + "".join(pieces[::-1])


def read_integer(text):
    """The integer of at most 60 digits that is written so, or None; digits can be preceded by a - and by zeros."""
    digits = text[1:] if text.startswith("-") else text
    if len(digits) > MOST_DIGITS or not are_digits(digits):
        return None
    return -int(digits) if text.startswith("-") else int(digits)
