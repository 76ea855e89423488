"""The two triangular rules that tell the sum of a shape."""

from armlegs.base.polys import Poly
from armlegs.base.shapes import (
    check_shape, column_factor, is_at_or_above, row_factor, shapes_of, squares_of, turned_shape,
)
from armlegs.errors import InvalidOperation
from armlegs.fill.fillings import shape_sum
from armlegs.sums.letters import times_letters
from armlegs.sums.sums import check_sum

LETTERS = ("q", "t")


def check_letter(letter):
    """Refuse what is neither "q" nor "t"."""
    if letter not in LETTERS:
        raise InvalidOperation("the letter is neither q nor t")


def triangle(f, letter):
    """The sum in letters times 1 - q, or times 1 - t."""
    check_sum(f)
    check_letter(letter)
    taken = Poly.letter(1, 0) if letter == "q" else Poly.letter(0, 1)
    return times_letters(f, Poly.number(1) - taken)


def lowest_shape(shape, letter):
    """The lowest shape at which the triangle of the sum of the shape has a number other than 0."""
    return shape if letter == "q" else turned_shape(shape)


def barred_shapes(shape, letter):
    """The tuple of the shapes that are not at or above the shape, for "t" not at or above the turned one."""
    check_shape(shape)
    check_letter(letter)
    lowest = lowest_shape(shape, letter)
    return tuple([other for other in shapes_of(sum(shape)) if not is_at_or_above(other, lowest)])


def first_failure(shape, f):
    """None if the sum is that of the shape; otherwise the first rule, and shape, at which it fails."""
    check_shape(shape)
    check_sum(f)
    if f.size != sum(shape):
        return ("size",)
    for letter in LETTERS:
        barred = barred_shapes(shape, letter)
        failed = [other for other, _ in triangle(f, letter).pairs if other in barred]
        if failed:
            return (letter, failed[0])
    if one_row_number(f) != Poly.number(1):
        return ("one",)
    return None


def one_row_number(f):
    """The tableau number of a sum, not of the size 0, at the shape with one row."""
    return f.number_at("s", (f.size,))


def is_shape_sum(shape, value):
    """Whether the value is the sum of the shape."""
    check_shape(shape)
    return shape_sum(shape) == value


def which_shape(f):
    """The shape whose sum f is, or None."""
    found = multiple_of(f)
    if found is None or found[1] != Poly.number(1):
        return None
    return found[0]


def multiple_of(f):
    """The pair (shape, polynomial) such that f is the polynomial times the sum of the shape, or None."""
    check_sum(f)
    if f.size == 0 or len(f.pairs) == 0:
        return None
    told = [(letter, [other for other, _ in triangle(f, letter).pairs]) for letter in LETTERS]
    for shape in shapes_of(f.size):
        if all([is_above_all(others, lowest_shape(shape, letter)) for letter, others in told]):
            return (shape, one_row_number(f))
    return None


def is_above_all(shapes, lowest):
    """Whether all of the shapes are at or above the lowest one."""
    return all([is_at_or_above(other, lowest) for other in shapes])


def corner_number(shape, letter):
    """The number that the triangle of the sum of the shape has at the lowest shape that is not barred."""
    check_shape(shape)
    check_letter(letter)
    made = Poly.number(1)
    for square in squares_of(shape):
        factor = row_factor(shape, square) if letter == "q" else column_factor(shape, square)
        made = made * factor
    return made
