"""Texts of shapes, polynomials and symmetric sums, written and read."""

from armlegs.base.polys import check_poly
from armlegs.base.shapes import check_shape
from armlegs.errors import ParseError, TooMany
from armlegs.sums.sums import MOST_SIZE, Sum, check_sum
from armlegs.text.terms import poly_text, shape_text, told_poly, told_shape

MAX_TEXT = 20000
# An integer with more binary digits than these has more than MAX_TEXT decimal ones.
MOST_BITS = 66439


def check_text(text):
    """Refuse what is no string that can be read."""
    if not isinstance(text, str) or len(text) > MAX_TEXT:
        raise ParseError(None)


def check_short(poly):
    """Refuse a polynomial with an integer whose digits alone are too long, since to write them would take long."""
    if any([row[2].bit_length() > MOST_BITS for row in poly.rows]):
        raise TooMany(MAX_TEXT)


def short_text(text):
    """The text, unless it is too long to be read."""
    if len(text) > MAX_TEXT:
        raise TooMany(MAX_TEXT)
    return text


def write_shape(shape):
    """The text of the shape."""
    check_shape(shape)
    return shape_text(shape)


def read_shape(text):
    """The shape with a text."""
    check_text(text)
    shape, wrong = told_shape(text)
    if shape is None:
        raise ParseError(wrong)
    return shape


def write_poly(poly):
    """The text of the polynomial."""
    check_poly(poly)
    check_short(poly)
    return short_text(poly_text(poly))


def read_poly(text):
    """The polynomial with a text."""
    check_text(text)
    poly, wrong = told_poly(text)
    if poly is None:
        raise ParseError(wrong)
    return poly


def pair_text(pair):
    """The text of a shape and of its number, with a blank between them."""
    return shape_text(pair[0]) + " " + poly_text(pair[1])


def write_sum(some):
    """The text of the sum: a line with its size, and one for each tableau number."""
    check_sum(some)
    for _, number in some.pairs:
        check_short(number)
    lines = [f"sum {some.size}"] + [pair_text(pair) for pair in some.pairs]
    return short_text("".join([line + "\n" for line in lines]))


def told_size(line):
    """The size that the first line of the text of a sum tells, or None."""
    sizes = [size for size in range(MOST_SIZE + 1) if line == f"sum {size}"]
    return sizes[0] if sizes else None


def told_pair(line, size):
    """The pair of a shape of a size and a number other than 0 that a line tells, or None."""
    head, _, tail = line.partition(" ")
    shape = () if head == "-" else told_shape(head)[0]
    number = told_poly(tail)[0]
    if shape is None or sum(shape) != size or number is None or len(number) == 0:
        return None
    return (shape, number)


def read_sum(text):
    """The sum with a text."""
    check_text(text)
    lines = text.split("\n")
    size = told_size(lines[0])
    if size is None or len(lines) == 1:
        raise ParseError(0)
    pairs = []
    for index in range(1, len(lines) - 1):
        pair = told_pair(lines[index], size)
        if pair is None or (pairs and pairs[-1][0] <= pair[0]):
            raise ParseError(index)
        pairs.append(pair)
    if lines[-1] != "":
        raise ParseError(len(lines) - 1)
    return Sum(size, tuple(pairs))
