"""The log of a desk: a text with a line for each call that stands."""

from armlegs.base.digits import read_integer, written_integer
from armlegs.base.polys import MOST_POWER, MOST_ROWS, Poly
from armlegs.base.rows import are_rows
from armlegs.desk.desk import Desk
from armlegs.errors import InvalidOperation, ParseError, Refused, TooMany, UnknownName

MOST_SIGNS_READ = 20000
FIRST_LINE = "desk"
BETWEEN_DEEDS = " / "


def log_text(desk):
    """The log of a desk that began without things."""
    if not isinstance(desk, Desk) or desk.things_at(0):
        raise InvalidOperation("this is no desk that began without things")
    lines = [FIRST_LINE] + [call_line(call) for call in desk.calls]
    return "".join([line + "\n" for line in lines])


def call_line(call):
    """The line of a call."""
    word, told = call
    if word == "pin":
        return "pin " + parts_line(told)
    return "edit " + BETWEEN_DEEDS.join([parts_line(deed) for deed in told])


def parts_line(parts):
    """A deed or a question with a blank between its parts."""
    return " ".join([part_text(part) for part in parts])


def part_text(part):
    """A word or a name as it is, a shape with commas, a polynomial as its rows."""
    if isinstance(part, Poly):
        return ";".join([numbers_text(row) for row in part.rows]) if len(part) > 0 else "-"
    if isinstance(part, tuple):
        return numbers_text(part)
    return part


def numbers_text(numbers):
    """Integers with commas between them."""
    return ",".join([written_integer(number) for number in numbers])


def read_log(text):
    """The desk with this log."""
    if not isinstance(text, str) or len(text) > MOST_SIGNS_READ:
        raise ParseError(None)
    lines = text.split("\n")
    if lines[0] != FIRST_LINE:
        raise ParseError(0)
    desk = Desk()
    for index in range(1, len(lines) - 1):
        if not is_line_done(desk, lines[index]):
            raise ParseError(index)
    if lines[-1] != "" or len(lines) == 1:
        raise ParseError(len(lines) - 1)
    return desk


def is_line_done(desk, line):
    """Whether the line is one of a log whose call is done; it is done on the desk then."""
    call = told_call(line)
    if call is None or call_line(call) != line:
        return False
    try:
        if call[0] == "pin":
            desk.pin(call[1])
        else:
            desk.edit(call[1])
    except (InvalidOperation, Refused, TooMany, UnknownName):
        return False
    return True


def told_call(line):
    """The call that a line tells, or None; other lines can be told to be the same call."""
    word, _, told = line.partition(" ")
    if word == "pin":
        return ("pin", tuple(told.split(" ")))
    if word != "edit":
        return None
    deeds = [told_deed(text.split(" ")) for text in told.split(BETWEEN_DEEDS)]
    if any([deed is None for deed in deeds]):
        return None
    return ("edit", tuple(deeds))


def told_deed(pieces):
    """The deed that the pieces between blanks tell, or None."""
    word = pieces[0]
    parts = list(pieces)
    if word in ("shape", "put"):
        parts[-1] = told_numbers(pieces[-1])
    elif word in ("times", "letters"):
        parts[-1] = told_poly(pieces[-1])
    if parts[-1] is None:
        return None
    return tuple(parts)


def told_numbers(text):
    """The tuple of the integers with commas between them, or None."""
    numbers = [read_integer(piece) for piece in text.split(",")]
    if any([number is None for number in numbers]):
        return None
    return tuple(numbers)


def told_poly(text):
    """The polynomial with the told rows, or None."""
    if text == "-":
        return Poly(())
    rows = tuple([told_numbers(piece) for piece in text.split(";")])
    if not are_rows(rows, MOST_ROWS, MOST_POWER):
        return None
    return Poly(rows)
