"""The two triangular rules that tell the sum of a shape."""

from armlegs.base.parts import SHAPES, arms_and_legs, is_above, turned_parts
from armlegs.base.polys import Poly
from armlegs.base.shapes import check_shape, column_factor, row_factor
from armlegs.errors import InvalidOperation
from armlegs.fill.fillings import shape_sum
from armlegs.sums.letters import lettered_shapes, times_letters
from armlegs.sums.sums import check_sum

LETTERS = ("q", "t")


def check_letter(letter):
    """Refuse what is neither "q" nor "t"."""
    if letter not in LETTERS:
        raise InvalidOperation("the letter is neither q nor t")


def taken_letter(letter):
    """The polynomial 1 - q, or 1 - t."""
    return Poly(((0, 0, 1), (1, 0, -1))) if letter == "q" else Poly(((0, 0, 1), (0, 1, -1)))


def triangle(f, letter):
    """The sum in letters times 1 - q, or times 1 - t."""
    check_sum(f)
    check_letter(letter)
    return times_letters(f, taken_letter(letter))


def triangle_shapes(f, letter):
    """The list of the shapes at which the triangle of the sum has a tableau number other than 0, in sequence."""
    return lettered_shapes(f, taken_letter(letter))


def lowest_shape(shape, letter):
    """The lowest shape at which the triangle of the sum of the shape has a number other than 0."""
    return shape if letter == "q" else turned_parts(shape)


def barred_shapes(shape, letter):
    """The tuple of the shapes that are not at or above the shape, for "t" not at or above the turned one."""
    check_shape(shape)
    check_letter(letter)
    return tuple(barred_among(SHAPES[sum(shape)], shape, letter))


def barred_among(shapes, shape, letter):
    """The list of the shapes among those that are barred."""
    lowest = lowest_shape(shape, letter)
    return [other for other in shapes if not is_above(other, lowest)]


def first_failure(shape, f):
    """None if the sum is that of the shape; otherwise the first rule, and shape, at which it fails."""
    check_shape(shape)
    check_sum(f)
    if f.size != sum(shape):
        return ("size",)
    for letter in LETTERS:
        failed = barred_among(triangle_shapes(f, letter), shape, letter)
        if failed:
            return (letter, failed[0])
    return None if one_row_number(f) == Poly.number(1) else ("one",)


def all_failures(f):
    """The tuple of the first failures of the sum for all shapes of its size, which is not 0, in sequence."""
    found = [(letter, triangle_shapes(f, letter)) for letter in LETTERS]
    failures = []
    for shape in SHAPES[f.size]:
        failed = [(letter, other) for letter, shapes in found for other in barred_among(shapes, shape, letter)]
        if not failed and one_row_number(f) != Poly.number(1):
            failed = [("one",)]
        failures.append(failed[0] if failed else None)
    return tuple(failures)


def one_row_number(f):
    """The tableau number of a sum, not of the size 0, at the shape with one row."""
    return f.number_at("s", (f.size,))


def is_shape_sum(shape, value):
    """Whether the value is the sum of the shape."""
    check_shape(shape)
    return shape_sum(shape) == value


def which_shape(f):
    """The shape whose sum f is, or None."""
    found = multiple_of(f)
    if found is None or found[1] != Poly.number(1):
        return None
    return found[0]


def multiple_of(f):
    """The pair (shape, polynomial) such that f is the polynomial times the sum of the shape, or None."""
    check_sum(f)
    if f.size == 0 or len(f.pairs) == 0:
        return None
    found = [(letter, triangle_shapes(f, letter)) for letter in LETTERS]
    for shape in SHAPES[f.size]:
        if not any([barred_among(shapes, shape, letter) for letter, shapes in found]):
            return (shape, one_row_number(f))
    return None


def corner_number(shape, letter):
    """The number that the triangle of the sum of the shape has at the lowest shape that is not barred."""
    check_shape(shape)
    check_letter(letter)
    made = Poly.number(1)
    for _, arms, legs in arms_and_legs(shape):
        made = made * (row_factor(arms, legs) if letter == "q" else column_factor(arms, legs))
    return made
