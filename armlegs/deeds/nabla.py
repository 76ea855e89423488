"""Nabla: the operator that multiplies each sum of a shape by the lift of the shape."""

from armlegs.base.checks import is_integer_from
from armlegs.base.packs import Sparse, way_to_work
from armlegs.base.parts import SHAPES
from armlegs.base.polys import Poly, check_poly, poly_of
from armlegs.deeds.images import IMAGE_ROWS
from armlegs.errors import InvalidNumber, InvalidOperation, InvalidSum
from armlegs.sums.letters import rows_of_sum
from armlegs.sums.sums import Sum, gathered, sum_of

MOST_NABLA = 5
MOST_TIMES = 2
FEW_ROWS = 6
# Nabla makes nothing that is greater than the bound; one binary digit is left for signs, and one more.
SIGN_BITS = 2


def check_led(some):
    """Refuse what is no symmetric sum of a size for which there is nabla."""
    if not isinstance(some, Sum) or some.size > MOST_NABLA:
        raise InvalidSum("this is no symmetric sum of a size from 0 to 5")


def check_led_size(size):
    """Refuse what is no size, other than 0, for which there is nabla."""
    if not is_integer_from(size, 1, MOST_NABLA):
        raise InvalidNumber(size)


def image_parts(shape):
    """The list of the triples (shape, sign, polynomial) that add up to nabla of the tableau sum for a shape."""
    sign, pairs = IMAGE_ROWS[shape]
    return [(other, sign, poly_of(rows)) for other, rows in pairs]


def way_to_lead(some, images):
    """The way to work on the numbers of a sum and the images of its tableau sums; to pack few rows takes too long."""
    rows = rows_of_sum(some)
    if len(rows) <= FEW_ROWS:
        return Sparse()
    beside = [row for parts in images for _, _, image in parts for row in image.rows]
    return way_to_work(rows, beside, Poly.number(1), 0, SIGN_BITS)


def led_on(some):
    """Nabla of the sum: that of its tableau sums, times its numbers."""
    images = [image_parts(shape) for shape, _ in some.pairs]
    way = way_to_lead(some, images)
    found = {}
    for (_, number), parts in zip(some.pairs, images):
        value = way.pack(number)
        for other, sign, image in parts:
            found.setdefault(other, []).append((sign, value * way.pack_beside(image)))
    size = some.size
    return sum_of(size, [(shape, way.poly_beside(way.total(found[shape]))) for shape in SHAPES[size] if shape in found])


def led_back(some):
    """Nabla of the sum, done back: it is done forwards if letters are inverted and sums are turned."""
    return led_on(some.with_inverted().turned()).with_inverted().turned()


def led(some, many):
    """Nabla of the sum, done `many` times, or done back so many times for a number below 0."""
    made = some
    for _ in range(abs(many)):
        made = led_on(made) if many > 0 else led_back(made)
    return made


def nabla(some, *, many=1):
    """Nabla of the sum, done `many` times, or done back so many times for a number below 0."""
    check_led(some)
    if not is_integer_from(many, -MOST_TIMES, MOST_TIMES):
        raise InvalidNumber(many)
    return led(some, many)


def elementary_image(size):
    """Nabla of the sum of the kind "e" for (size,)."""
    check_led_size(size)
    return gathered(size, image_parts((1,) * size))


def grown(some, poly):
    """The sum of c times nabla done i times, over all rows (i, 0, c) of the polynomial."""
    check_led(some)
    check_poly(poly)
    if not all([abs(i) <= MOST_TIMES and j == 0 for i, j, _ in poly.rows]):
        raise InvalidOperation("the polynomial has other rows than (i, 0, c) with i from -2 to 2")
    parts = []
    for i, _, c in poly.rows:
        parts.extend([(shape, c, number) for shape, number in led(some, i).pairs])
    return gathered(some.size, parts)


def nabla_table(size):
    """The tuple of nabla of the tableau sums for all shapes of a size."""
    check_led_size(size)
    return tuple([gathered(size, image_parts(shape)) for shape in SHAPES[size]])
