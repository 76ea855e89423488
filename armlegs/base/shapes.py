"""Shapes, their squares, and the polynomials that belong to them."""

from armlegs.base.checks import is_composition_within, is_integer, is_integer_from, is_shape_within
from armlegs.base.parts import all_compositions, arms_and_legs, is_above, parts_rise, partitions_of, turned_parts
from armlegs.base.polys import Poly
from armlegs.errors import InvalidNumber, InvalidOperation, InvalidShape, TooMany

MAX_SIZE = 6


def check_size(size):
    """Refuse what is no size."""
    if not is_integer_from(size, 1, MAX_SIZE):
        raise InvalidNumber(size)


def check_shape(shape):
    """Refuse what is no shape."""
    if not is_shape(shape):
        raise InvalidShape("this is no shape of a size from 1 to 6")


def check_composition(composition):
    """Refuse what is no composition."""
    if not is_composition_within(composition, 1, MAX_SIZE):
        raise InvalidShape("this is no composition of a number from 1 to 6")


def check_square(shape, square):
    """Refuse what is no square of the shape."""
    if not isinstance(square, tuple) or len(square) != 2 or not all([is_integer(part) for part in square]):
        raise InvalidOperation("this is no square")
    row, column = square
    if not 0 <= row < len(shape) or not 0 <= column < shape[row]:
        raise InvalidOperation("the square is not one of the shape")


def shapes_of(size):
    """The tuple of all shapes of a size, descending as tuples."""
    check_size(size)
    return tuple(partitions_of(size))


def compositions_of(size):
    """The tuple of all compositions of a size, descending as tuples."""
    check_size(size)
    return tuple(all_compositions(size))


def is_shape(value):
    """Whether the value is a shape of a size from 1 to 6."""
    return is_shape_within(value, 1, MAX_SIZE)


def turned_shape(shape):
    """The shape whose rows are the columns of the shape."""
    check_shape(shape)
    return turned_parts(shape)


def squares_of(shape):
    """The ascending tuple of the squares (row, column) of the shape."""
    check_shape(shape)
    return tuple([(row, column) for row in range(len(shape)) for column in range(shape[row])])


def arm(shape, square):
    """The number of squares to the right of the square in its row."""
    check_shape(shape)
    check_square(shape, square)
    return shape[square[0]] - square[1] - 1


def leg(shape, square):
    """The number of squares above the square in its column."""
    check_shape(shape)
    check_square(shape, square)
    return turned_parts(shape)[square[1]] - square[0] - 1


def hook(shape, square):
    """The arm and the leg of the square, and 1."""
    return arm(shape, square) + leg(shape, square) + 1


def rise(shape):
    """The sum of the row numbers of all squares."""
    check_shape(shape)
    return parts_rise(shape)


def lift(shape):
    """The product of the places of all squares."""
    check_shape(shape)
    return Poly.letter(rise(turned_parts(shape)), rise(shape))


def place_sum(shape):
    """The sum of the places of all squares."""
    return Poly(tuple(sorted([(column, row, 1) for row, column in squares_of(shape)])))


def value_of(shape):
    """1 - (1 - q)(1 - t) times the place sum."""
    one = Poly.number(1)
    return one - (one - Poly.letter(1, 0)) * (one - Poly.letter(0, 1)) * place_sum(shape)


def row_factor(arms, legs):
    """t ** leg - q ** (arm + 1)."""
    return Poly(((0, legs, 1), (arms + 1, 0, -1)))


def column_factor(arms, legs):
    """q ** arm - t ** (leg + 1)."""
    if arms == 0:
        return Poly(((0, 0, 1), (0, legs + 1, -1)))
    return Poly(((0, legs + 1, -1), (arms, 0, 1)))


def norm(shape):
    """The product of both factors over all squares."""
    check_shape(shape)
    made = Poly.number(1)
    for _, arms, legs in arms_and_legs(shape):
        made = made * row_factor(arms, legs) * column_factor(arms, legs)
    return made


def is_at_or_above(shape, other):
    """Whether the first k rows of the shape have as many squares as those of the other one, for each k."""
    check_shape(shape)
    check_shape(other)
    if sum(shape) != sum(other):
        raise InvalidOperation("the shapes have unlike sizes")
    return is_above(shape, other)


def lower_shapes(shape):
    """The tuple of the shapes with one square less."""
    check_shape(shape)
    if sum(shape) == 1:
        return ()
    return tuple([lower for lower in partitions_of(sum(shape) - 1) if is_within(lower, shape)])


def higher_shapes(shape):
    """The tuple of the shapes with one square more."""
    check_shape(shape)
    if sum(shape) == MAX_SIZE:
        raise TooMany(MAX_SIZE)
    return tuple([higher for higher in partitions_of(sum(shape) + 1) if is_within(shape, higher)])


def is_within(one, other):
    """Whether each square of the one shape is one of the other."""
    return len(one) <= len(other) and all([one[row] <= other[row] for row in range(len(one))])


def square_between(shape, lower):
    """The square that goes if the shape becomes the lower one."""
    check_shape(shape)
    check_shape(lower)
    if lower not in lower_shapes(shape):
        raise InvalidOperation("the shape does not have this lower one")
    gone = [square for square in squares_of(shape) if not is_in(lower, square)]
    return gone[0]


def is_in(shape, square):
    """Whether the pair (row, column) is a square of the shape."""
    return square[0] < len(shape) and square[1] < shape[square[0]]
