"""Fillings of shapes with integers, their two counts, and the sums of shapes."""

from armlegs.base.checks import is_integer_from
from armlegs.base.parts import arrangements
from armlegs.base.polys import poly_of
from armlegs.base.rows import rows_of_table
from armlegs.base.shapes import arm, check_shape, leg
from armlegs.base.traces import check_content
from armlegs.errors import InvalidFilling
from armlegs.fill.known import SHAPE_ROWS
from armlegs.sums.sums import sum_of

MOST_ENTRY = 60


def check_filling(shape, filling):
    """Refuse what is no filling of the shape."""
    if not is_filling(shape, filling):
        raise InvalidFilling("this is no filling of the shape")


def reading(shape):
    """The squares in the order in which they are read: the uppermost row first, each row from the left."""
    check_shape(shape)
    return tuple([(row, column) for row in range(len(shape) - 1, -1, -1) for column in range(shape[row])])


def is_filling(shape, value):
    """Whether the value is a tuple of an integer from 1 to 60 for each square of the shape."""
    check_shape(shape)
    if not isinstance(value, tuple) or len(value) != sum(shape):
        return False
    return all([is_integer_from(number, 1, MOST_ENTRY) for number in value])


def are_near(one, other):
    """Whether a square is near another one that is read behind it."""
    return one[0] == other[0] or (one[0] == other[0] + 1 and one[1] > other[1])


def near_pairs(shape):
    """The list of the pairs of near squares, told by their indices in the reading."""
    squares = reading(shape)
    return [
        (one, other)
        for other in range(len(squares))
        for one in range(other)
        if are_near(squares[one], squares[other])
    ]


def steps_down(shape):
    """A list with (index, index of the square below, arm, leg) for each square above the lowest row."""
    squares = reading(shape)
    return [
        (k, squares.index((square[0] - 1, square[1])), arm(shape, square), leg(shape, square))
        for k, square in enumerate(squares)
        if square[0] > 0
    ]


def counted(filling, pairs, steps):
    """The pair (INV, MAJ) of a filling of the shape with these near pairs and these steps down."""
    inv = len([one for one, other in pairs if filling[one] > filling[other]])
    maj = 0
    for square, below, arms, legs in steps:
        if filling[square] > filling[below]:
            inv = inv - arms
            maj = maj + legs + 1
    return (inv, maj)


def counts_of(shape, filling):
    """The pair (INV, MAJ) of a filling of the shape."""
    check_shape(shape)
    check_filling(shape, filling)
    return counted(filling, near_pairs(shape), steps_down(shape))


def filling_sum(shape, content):
    """The sum of q ** INV t ** MAJ over all fillings of the shape with a content."""
    check_shape(shape)
    check_content(shape, content)
    pairs = near_pairs(shape)
    steps = steps_down(shape)
    table = {}
    for filling in arrangements(content):
        powers = counted(filling, pairs, steps)
        table[powers] = table.get(powers, 0) + 1
    return poly_of(rows_of_table(table))


def shape_sum(shape):
    """The sum of the shape: its numbers of the kind "h" are the filling sums, and it is kept with the package."""
    check_shape(shape)
    return sum_of(sum(shape), [(other, poly_of(rows)) for other, rows in SHAPE_ROWS[shape]])


def standard_fillings(shape):
    """The fillings of the shape with each integer from 1 to its size once, ascending."""
    check_shape(shape)
    for filling in arrangements((1,) * sum(shape)):
        yield filling
