"""Nabla: the operator that multiplies each sum of a shape by the lift of the shape."""

from armlegs.base.checks import is_integer_from
from armlegs.base.parts import SHAPES
from armlegs.base.polys import check_poly, poly_of
from armlegs.deeds.images import IMAGE_ROWS
from armlegs.errors import InvalidNumber, InvalidOperation, InvalidSum
from armlegs.sums.sums import Sum, gathered

MOST_NABLA = 5
MOST_TIMES = 2


def check_led(some):
    """Refuse what is no symmetric sum of a size for which there is nabla."""
    if not isinstance(some, Sum) or some.size > MOST_NABLA:
        raise InvalidSum("this is no symmetric sum of a size from 0 to 5")


def check_led_size(size):
    """Refuse what is no size, other than 0, for which there is nabla."""
    if not is_integer_from(size, 1, MOST_NABLA):
        raise InvalidNumber(size)


def image_parts(shape):
    """The list of the triples (shape, sign, polynomial) that add up to nabla of the tableau sum for a shape."""
    sign, pairs = IMAGE_ROWS[shape]
    return [(other, sign, poly_of(rows)) for other, rows in pairs]


def led_on(some):
    """Nabla of the sum: that of its tableau sums, times its numbers."""
    return gathered(some.size, [
        (other, sign, number * image)
        for shape, number in some.pairs
        for other, sign, image in image_parts(shape)
    ])


def led_back(some):
    """Nabla of the sum, done back: it is done forwards if letters are inverted and sums are turned."""
    return led_on(some.with_inverted().turned()).with_inverted().turned()


def led(some, many):
    """Nabla of the sum, done `many` times, or done back so many times for a number below 0."""
    made = some
    for _ in range(abs(many)):
        made = led_on(made) if many > 0 else led_back(made)
    return made


def nabla(some, *, many=1):
    """Nabla of the sum, done `many` times, or done back so many times for a number below 0."""
    check_led(some)
    if not is_integer_from(many, -MOST_TIMES, MOST_TIMES):
        raise InvalidNumber(many)
    return led(some, many)


def elementary_image(size):
    """Nabla of the sum of the kind "e" for (size,)."""
    check_led_size(size)
    return gathered(size, image_parts((1,) * size))


def grown(some, poly):
    """The sum of c times nabla done i times, over all rows (i, 0, c) of the polynomial."""
    check_led(some)
    check_poly(poly)
    if not all([abs(i) <= MOST_TIMES and j == 0 for i, j, _ in poly.rows]):
        raise InvalidOperation("the polynomial has other rows than (i, 0, c) with i from -2 to 2")
    parts = []
    for i, _, c in poly.rows:
        parts.extend([(shape, c, number) for shape, number in led(some, i).pairs])
    return gathered(some.size, parts)


def nabla_table(size):
    """The tuple of nabla of the tableau sums for all shapes of a size."""
    check_led_size(size)
    return tuple([gathered(size, image_parts(shape)) for shape in SHAPES[size]])
