"""An operator that multiplies each sum of a shape by its value, squares more or less, and the star pairing."""

from armlegs.base.checks import is_integer_from
from armlegs.base.parts import arms_and_legs
from armlegs.base.polys import Poly
from armlegs.base.shapes import check_shape, column_factor, norm, row_factor, square_between
from armlegs.errors import InvalidNumber, InvalidOperation, TooMany
from armlegs.fill.fillings import shape_sum
from armlegs.sums.letters import joined_parts, lettered_pairing
from armlegs.sums.sums import MOST_SIZE, check_sizes, check_sum


def both_letters():
    """The polynomial (1 - q)(1 - t)."""
    one = Poly.number(1)
    return (one - Poly.letter(1, 0)) * (one - Poly.letter(0, 1))


def moved(f, step):
    """The sum of (-1) ** i times e_i times the part of size n - j, in further letters, over all i = j + step."""
    check_sum(f)
    if not is_integer_from(step, -1, 1):
        raise InvalidNumber(step)
    size = f.size + step
    if size < 0:
        raise InvalidOperation("there is no sum of a size below 0")
    if size > MOST_SIZE:
        raise TooMany(MOST_SIZE)
    return joined_parts(f, both_letters(), size, [signed_column(j + step) for j in range(f.size + 1)])


def signed_column(many):
    """The sign, and the shape as a tableau sum, of the sum of the kind "e" for so many letters; 0 and () below 0."""
    if many < 0:
        return (0, ())
    return (1 if many % 2 == 0 else -1, (1,) * many)


def lowering(shape, lower):
    """The two products whose quotient is c(shape, lower)."""
    gone = square_between(shape, lower)
    return (cross_product(shape, gone), cross_product(lower, gone))


def cross_product(shape, gone):
    """The product of a factor for each square of the shape in the row, or the column, of the square that goes."""
    made = Poly.number(1)
    for square, arms, legs in arms_and_legs(shape):
        if square[0] == gone[0] and square != gone:
            made = made * row_factor(arms, legs)
        if square[1] == gone[1] and square != gone:
            made = made * column_factor(arms, legs)
    return made


def raising(lower, shape):
    """The two products whose quotient is d(lower, shape)."""
    top, bottom = lowering(shape, lower)
    return (both_letters() * top * norm(lower), bottom * norm(shape))


def star(one, other):
    """The star pairing of two sums.

    Turning the one sum brings in the signs, and letters times (1 - q)(1 - t) bring in the factors.
    """
    check_sum(one)
    check_sum(other)
    check_sizes(one, other)
    return lettered_pairing(one.turned(), other, both_letters())


def shape_number(f, shape):
    """The two polynomials whose quotient is the number of f at the sum of the shape."""
    check_sum(f)
    check_shape(shape)
    if f.size != sum(shape):
        raise InvalidOperation("the sum and the shape have unlike sizes")
    return (star(f, shape_sum(shape)), norm(shape))
