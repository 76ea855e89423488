"""Texts of shapes and polynomials without bounds of length, and what a text tells or where it is wrong.

What is told is a pair (value, None), or (None, index) with the index at which the first wrong part begins.
"""

from armlegs.base.digits import are_digits, read_integer, written_integer
from armlegs.base.polys import MOST_POWER, MOST_ROWS, Poly
from armlegs.base.rows import is_triple

PARTS = ("1", "2", "3", "4", "5", "6")
MOST_PARTS = 6


def shape_text(shape):
    """The text of a shape, - for ()."""
    return ",".join([str(part) for part in shape]) if shape else "-"


def told_shape(text):
    """The shape with a text, or where it is wrong."""
    made = ()
    start = 0
    for part in text.split(","):
        if part not in PARTS or sum(made) + int(part) > MOST_PARTS:
            return (None, start)
        if made and int(part) > made[-1]:
            return (None, start)
        made = made + (int(part),)
        start = start + len(part) + 1
    return (made, None)


def power_text(letter, power):
    """The text of a power of a letter."""
    if power == 0:
        return ""
    if power == 1:
        return letter
    digits = written_integer(power)
    return letter + (digits if power > 0 else "(" + digits + ")")


def term_text(row, is_first):
    """The text of a term."""
    i, j, c = row
    letters = power_text("q", i) + power_text("t", j)
    digits = written_integer(abs(c))
    if digits == "1" and letters != "":
        digits = ""
    if c < 0:
        return "-" + digits + letters
    return (digits if is_first else "+" + digits) + letters


def poly_text(poly):
    """The text of a polynomial."""
    if len(poly) == 0:
        return "0"
    return "".join([term_text(row, k == 0) for k, row in enumerate(poly.rows)])


def cut_terms(text):
    """The list of the pairs (index at which a term begins, its text)."""
    starts = [0]
    within = False
    for k, sign in enumerate(text):
        if sign == "(":
            within = True
        elif sign == ")":
            within = False
        elif sign in "+-" and not within and k > 0:
            starts.append(k)
    return [(start, text[start:end]) for start, end in zip(starts, starts[1:] + [len(text)])]


def told_power(text):
    """The power that stands behind a letter, or None; other texts can tell it, too."""
    if text == "":
        return 1
    if text.startswith("(") and text.endswith(")"):
        return read_integer(text[1:-1])
    return read_integer(text)


def told_term(text, is_first):
    """The row (i, j, c) that a term tells, or None. A term is right if it is what is written for this row."""
    sign = -1 if text.startswith("-") else 1
    body = text[1:] if text.startswith("-") or text.startswith("+") else text
    head, q, rest = body.partition("q")
    if q == "":
        head, t, power = body.partition("t")
        i = 0
    else:
        front, t, power = rest.partition("t")
        i = told_power(front)
    j = 0 if t == "" else told_power(power)
    c = read_integer(head) if are_digits(head) else 1
    if i is None or j is None or c is None or not is_triple((i, j, sign * c), MOST_POWER):
        return None
    row = (i, j, sign * c)
    return row if term_text(row, is_first) == text else None


def told_poly(text):
    """The polynomial with a text, or where it is wrong."""
    if text == "0":
        return (Poly(()), None)
    rows = []
    for start, term in cut_terms(text):
        row = told_term(term, len(rows) == 0)
        if row is None or len(rows) == MOST_ROWS or (rows and rows[-1][:2] >= row[:2]):
            return (None, start)
        rows.append(row)
    return (Poly(tuple(rows)), None)
