"""Nabla: the operator that multiplies each sum of a shape by the lift of the shape."""

from armlegs.base.checks import is_integer_from
from armlegs.base.parts import partitions_of
from armlegs.base.polys import check_poly, poly_of
from armlegs.base.shapes import lift, norm
from armlegs.deeds.packs import packed, unpacked
from armlegs.deeds.values import both_letters
from armlegs.errors import InvalidNumber, InvalidOperation, InvalidSum
from armlegs.fill.fillings import shape_sum
from armlegs.sums.letters import times_letters
from armlegs.sums.sums import Sum, sum_of

MOST_NABLA = 5
MOST_TIMES = 2


def check_led(some):
    """Refuse what is no symmetric sum of a size for which there is nabla."""
    if not isinstance(some, Sum) or some.size > MOST_NABLA:
        raise InvalidSum("this is no symmetric sum of a size from 0 to 5")


def check_led_size(size):
    """Refuse what is no size, other than 0, for which there is nabla."""
    if not is_integer_from(size, 1, MOST_NABLA):
        raise InvalidNumber(size)


def packed_numbers(some):
    """A dict from the shapes to the tableau numbers other than 0, each packed."""
    return {shape: packed(number) for shape, number in some.pairs}


def nabla_images(size):
    """A dict from the shapes of a size to nabla of their tableau sums.

    With s the tableau sum and H the sum of a shape, nabla of s is the sum of star(s, H) / norm times the lift
    times H, over all shapes. All numbers are packed, since the common bottom of these quotients is great. What
    they add up to has small coefficients and powers from 0 to 10 in these sizes, so it can be read off its value.
    """
    if size == 0:
        return {(): Sum.of_kind("s", ())}
    shapes = partitions_of(size)
    sums = [shape_sum(shape) for shape in shapes]
    norms = [packed(norm(shape)) for shape in shapes]
    bottom = product_of(norms)
    weights = [packed(lift(shape)) * (bottom // whole) for shape, whole in zip(shapes, norms)]
    numbers = [packed_numbers(some) for some in sums]
    stars = [packed_numbers(times_letters(some, both_letters()).turned()) for some in sums]
    found = {}
    for shape in shapes:
        shares = [weight * told.get(shape, 0) for weight, told in zip(weights, stars)]
        tops = [(other, [share * told[other] for share, told in zip(shares, numbers)]) for other in shapes]
        found[shape] = sum_of(size, [(other, unpacked(sum(parts) // bottom)) for other, parts in tops])
    return found


def product_of(numbers):
    """The product of the integers of a list."""
    made = 1
    for number in numbers:
        made = made * number
    return made


def led_on(some, images):
    """Nabla of the sum, told nabla of all tableau sums of its size."""
    made = Sum(some.size, ())
    for shape, number in some.pairs:
        made = made + images[shape].times(number)
    return made


def led_back(some, images):
    """Nabla of the sum, done back: it is done forwards if letters are inverted and sums are turned."""
    return led_on(some.with_inverted().turned(), images).with_inverted().turned()


def led(some, many, images):
    """Nabla of the sum, done `many` times, or done back so many times for a number below 0."""
    made = some
    for _ in range(abs(many)):
        made = led_on(made, images) if many > 0 else led_back(made, images)
    return made


def nabla(some, *, many=1):
    """Nabla of the sum, done `many` times, or done back so many times for a number below 0."""
    check_led(some)
    if not is_integer_from(many, -MOST_TIMES, MOST_TIMES):
        raise InvalidNumber(many)
    return led(some, many, nabla_images(some.size))


def elementary_image(size):
    """Nabla of the sum of the kind "e" for (size,)."""
    check_led_size(size)
    return nabla(Sum.of_kind("e", (size,)))


def grown(some, poly):
    """The sum of c times nabla done i times, over all rows (i, 0, c) of the polynomial."""
    check_led(some)
    check_poly(poly)
    if not all([abs(i) <= MOST_TIMES and j == 0 for i, j, _ in poly.rows]):
        raise InvalidOperation("the polynomial has other rows than (i, 0, c) with i from -2 to 2")
    images = nabla_images(some.size)
    made = Sum(some.size, ())
    for i, _, c in poly.rows:
        made = made + led(some, i, images).times(poly_of(((0, 0, c),)))
    return made


def nabla_table(size):
    """The tuple of nabla of the tableau sums for all shapes of a size."""
    check_led_size(size)
    images = nabla_images(size)
    return tuple([images[shape] for shape in partitions_of(size)])
