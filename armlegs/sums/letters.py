"""Letters put into symmetric sums, and taken out of them."""

from math import factorial

from armlegs.base.packs import SPARE_BITS, Sparse, way_to_work
from armlegs.base.parts import SHAPES
from armlegs.base.polys import Poly, check_poly, quotient_of
from armlegs.base.shapes import check_shape
from armlegs.errors import InvalidOperation, Refused
from armlegs.sums.kinds import product_pairs
from armlegs.sums.sums import MOST_SIZE, Sum, check_kind, check_sum, pairing, placed_numbers, sum_of, whole_numbers
from armlegs.sums.tables import POWER_ROWS, RENAMINGS


def way_for(some, poly):
    """The way to work on the numbers of a sum with letters put in."""
    return way_to_work(rows_of_sum(some), [(0, 0, 1)], poly, some.size, SPARE_BITS)


def rows_of_sum(some):
    """The list of the rows of all tableau numbers of a sum."""
    return [row for _, number in some.pairs for row in number.rows]


def letter_products(way, poly, size):
    """A dict from the shapes of all sizes up to `size` to the products of u(k) over their rows k, u being `poly`."""
    put = [way.letters(poly, k + 1) for k in range(size)]
    made = {(): way.one()}
    for total in range(1, size + 1):
        for cycles in SHAPES[total]:
            made[cycles] = put[cycles[0] - 1] * made[cycles[1:]]
    return made


def lettered(some, poly, way):
    """The list of the tableau numbers of the sum in letters times a polynomial, at all shapes."""
    size = some.size
    rows = POWER_ROWS[size]
    counts = RENAMINGS[size]
    products = letter_products(way, poly, size)
    placed = [(k, way.pack(number)) for k, number in placed_numbers(some)]
    told = []
    for c, cycles in enumerate(SHAPES[size]):
        told.append(way.total([(rows[c][k] * counts[c], number) for k, number in placed]) * products[cycles])
    return [
        way.share(way.total([(rows[c][k], told[c]) for c in range(len(told))]), factorial(size))
        for k in range(len(told))
    ]


def times_letters(some, poly):
    """The sum in letters times a polynomial."""
    check_sum(some)
    check_poly(poly)
    way = way_for(some, poly)
    numbers = [way.poly(value) for value in lettered(some, poly, way)]
    return sum_of(some.size, list(zip(SHAPES[some.size], numbers)))


def lettered_shapes(some, poly):
    """The list of the shapes at which the sum in letters times a polynomial has a number other than 0."""
    way = way_for(some, poly)
    numbers = lettered(some, poly, way)
    return [shape for shape, value in zip(SHAPES[some.size], numbers) if not way.is_zero(value)]


def lettered_pairing(one, other, poly):
    """The pairing of a sum with another one of its size that is in letters times a polynomial."""
    way = way_to_work(rows_of_sum(other), rows_of_sum(one), poly, other.size, SPARE_BITS)
    numbers = lettered(other, poly, way)
    products = [(1, way.pack_beside(number) * numbers[k]) for k, number in placed_numbers(one)]
    return way.poly_beside(way.total(products))


def put_tableaux(way, poly, size):
    """A dict from the shapes of all sizes up to `size` to their tableau sums with letters put in, raised."""
    products = letter_products(way, poly, size)
    made = {}
    for total in range(size + 1):
        told = [(count, row, products[cycles]) for count, row, cycles in cycle_rows(total)]
        for k, shape in enumerate(SHAPES[total]):
            value = way.total([(count * row[k], product) for count, row, product in told])
            made[shape] = way.raised(way.share(value, factorial(total)), total)
    return made


def cycle_rows(size):
    """The list of the triples of how many renamings there are, of the traces at them, and of their cycles."""
    return list(zip(RENAMINGS[size], POWER_ROWS[size], SHAPES[size]))


def parts_put(some, poly, way):
    """The list of dicts from shapes to the numbers other than 0 of the parts of the sum, the greatest size first.

    A part is made of all products of a tableau sum that stays and one for which letters are put in.
    """
    numbers = {shape: way.pack(number) for shape, number in some.pairs}
    put = put_tableaux(way, poly, some.size)
    parts = []
    for many in range(some.size + 1):
        made = {}
        for shape in SHAPES[some.size - many]:
            value = way.total([(1, part) for part in products_put(shape, many, numbers, put, way)])
            if not way.is_zero(value):
                made[shape] = value
        parts.append(made)
    return parts


def products_put(shape, many, numbers, put, way):
    """The list of the products that add up to the number of a part at a shape, with `many` of the letters put in."""
    made = []
    for other in SHAPES[many]:
        if not way.is_zero(put[other]):
            told = [(times, numbers[larger]) for larger, times in product_pairs(shape, other) if larger in numbers]
            if told:
                made.append(way.total(told) * put[other])
    return made


def part_sum(size, part, way):
    """The sum of a size with the numbers of a part."""
    return sum_of(size, [(shape, way.poly(part[shape])) for shape in SHAPES[size] if shape in part])


def part_poly(part, way):
    """The number of a part of the size 0."""
    return way.poly(part[()]) if () in part else Poly(())


def put_letters(some, poly):
    """The polynomial that the sum becomes if the terms of a polynomial stand for the letters."""
    check_sum(some)
    check_poly(poly)
    way = way_for(some, poly)
    put = put_tableaux(way, poly, some.size)
    return way.poly(way.total([(1, way.pack(number) * put[shape]) for shape, number in some.pairs]))


def added_letters(some, poly):
    """The tuple of the parts of the sum in the letters and further letters, the greatest size first."""
    check_sum(some)
    check_poly(poly)
    way = way_for(some, poly)
    parts = parts_put(some, poly, way)
    made = [part_sum(some.size - many, parts[many], way) for many in range(some.size)]
    return tuple(made + [part_poly(parts[-1], way)])


def joined_parts(some, poly, size, beside):
    """The sum of a size of the products of the parts of the sum, in further letters, and of tableau sums.

    `beside` has for each part, the greatest one first, a pair of an integer and of the shape of a tableau sum.
    """
    way = way_for(some, poly)
    found = {}
    for part, (weight, other) in zip(parts_put(some, poly, way), beside):
        if weight != 0:
            for shape, value in part.items():
                for larger, many in product_pairs(shape, other):
                    found.setdefault(larger, []).append((weight * many, value))
    return part_sum(size, {shape: way.total(found[shape]) for shape in found}, way)


def without_letters(some, poly):
    """The sum whose letters times the polynomial make `some`.

    All numbers of the kind "p" are brought to one bottom, the product of `bottoms`. It has what those
    numbers need that cannot be divided alone.
    """
    check_sum(some)
    check_poly(poly)
    if some.size > 0 and len(poly) == 0:
        raise InvalidOperation("letters times 0 cannot be undone")
    products = letter_products(Sparse(), poly, some.size)
    told = [(cycles, number, quotient_of(number, products[cycles])) for cycles, number in some.numbers("p")]
    bottoms = common_rows([cycles for cycles, _, made in told if made is None])
    tops = []
    for cycles, number, made in told:
        if made is None:
            tops.append((cycles, number * product_over(poly, rows_beside(bottoms, cycles))))
        else:
            tops.append((cycles, made * product_over(poly, bottoms)))
    bottom = product_over(poly, bottoms) * Poly.number(factorial(some.size))
    return divided_sum(whole_numbers(sum_of(some.size, tops)), bottom)


def common_rows(shapes):
    """The least tuple of integers that has each integer at least as often as each of the shapes."""
    made = ()
    for k in range(1, MOST_SIZE + 1):
        made = made + (k,) * max([shape.count(k) for shape in shapes], default=0)
    return made


def rows_beside(rows, shape):
    """The integers that are left of `rows` if those of the shape are taken away."""
    made = ()
    for k in range(1, MOST_SIZE + 1):
        made = made + (k,) * (rows.count(k) - shape.count(k))
    return made


def product_over(poly, rows):
    """The product of u(k) over the integers k in the rows, u being the polynomial."""
    made = Poly.number(1)
    for k in rows:
        made = made * poly.stretched(k)
    return made


def divided_sum(some, bottom):
    """The sum with each tableau number divided by a polynomial."""
    pairs = []
    for shape, number in some.pairs:
        share = quotient_of(number, bottom)
        if share is None:
            raise Refused(("rest", shape))
        pairs.append((shape, share))
    return sum_of(some.size, pairs)


def taken_out(some, kind, shape):
    """The part of the sum that is left if the sum of a kind for a shape is taken out."""
    check_sum(some)
    check_kind(kind)
    check_shape(shape)
    size = some.size - sum(shape)
    if size < 1:
        raise InvalidOperation("the sum has no greater size than the shape")
    taken = Sum.of_kind(kind, shape)
    told = [(other, pairing(some, Sum.of_kind("s", other) * taken)) for other in SHAPES[size]]
    return sum_of(size, told)
