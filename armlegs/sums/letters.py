"""Letters put into symmetric sums, and taken out of them."""

from math import factorial

from armlegs.base.parts import partitions_of, z_number
from armlegs.base.polys import Poly, check_poly, divided, quotient_of, weighted_sum
from armlegs.base.shapes import check_shape
from armlegs.errors import InvalidOperation, Refused
from armlegs.sums.sums import MOST_SIZE, Sum, check_kind, check_sum, pairing, sum_of, whole_numbers


def letter_products(poly, size):
    """A dict from the shapes of all sizes up to `size` to the products of u(k) over their rows k, u being `poly`."""
    stretched = [poly.stretched(k + 1) for k in range(size)]
    made = {(): Poly.number(1)}
    for total in range(1, size + 1):
        for cycles in partitions_of(total):
            made[cycles] = stretched[cycles[0] - 1] * made[cycles[1:]]
    return made


def joined(one, other):
    """The shape with the rows of both shapes."""
    return tuple(sorted(one + other, reverse=True))


def times_letters(some, poly):
    """The sum in letters times a polynomial."""
    check_sum(some)
    check_poly(poly)
    products = letter_products(poly, some.size)
    told = [(cycles, number * products[cycles]) for cycles, number in some.numbers("p")]
    return Sum.from_numbers("p", some.size, sum_of(some.size, told).pairs)


def put_letters(some, poly):
    """The polynomial that the sum becomes if the terms of a polynomial stand for the letters."""
    check_sum(some)
    check_poly(poly)
    numbers = {cycles: number for cycles, number in some.numbers("p")}
    return shared_number(numbers, (), letter_products(poly, some.size), some.size)


def shared_number(numbers, cycles, products, size):
    """The number of the kind "p" at the cycles, if letters are put in for `size` of the letters of a sum.

    `numbers` are those of the kind "p" of the sum. The others of its cycles become the products.
    """
    whole = factorial(size)
    parts = []
    for other in partitions_of(size):
        if joined(cycles, other) in numbers:
            number = numbers[joined(cycles, other)] * products[other]
            parts.append((whole // z_number(other), number))
    return divided(weighted_sum(parts), whole)


def added_letters(some, poly):
    """The tuple of the parts of the sum in the letters and further letters, the greatest size first."""
    check_sum(some)
    check_poly(poly)
    numbers = {cycles: number for cycles, number in some.numbers("p")}
    products = letter_products(poly, some.size)
    made = []
    for size in range(some.size, 0, -1):
        put = some.size - size
        told = [(cycles, shared_number(numbers, cycles, products, put)) for cycles in partitions_of(size)]
        made.append(Sum.from_numbers("p", size, sum_of(size, told).pairs))
    return tuple(made + [shared_number(numbers, (), products, some.size)])


def all_parts(some, poly):
    """As of `added_letters`, but a list with a sum of the size 0 in the place of the polynomial."""
    made = added_letters(some, poly)
    return list(made[:-1]) + [sum_of(0, [((), made[-1])])]


def without_letters(some, poly):
    """The sum whose letters times the polynomial make `some`.

    All numbers of the kind "p" are brought to one bottom, the product of `bottoms`. It has what those
    numbers need that cannot be divided alone.
    """
    check_sum(some)
    check_poly(poly)
    if some.size > 0 and len(poly) == 0:
        raise InvalidOperation("letters times 0 cannot be undone")
    products = letter_products(poly, some.size)
    told = [(cycles, number, quotient_of(number, products[cycles])) for cycles, number in some.numbers("p")]
    bottoms = common_rows([cycles for cycles, _, made in told if made is None])
    tops = []
    for cycles, number, made in told:
        if made is None:
            tops.append((cycles, number * product_over(poly, rows_beside(bottoms, cycles))))
        else:
            tops.append((cycles, made * product_over(poly, bottoms)))
    bottom = product_over(poly, bottoms) * Poly.number(factorial(some.size))
    return divided_sum(whole_numbers(sum_of(some.size, tops)), bottom)


def common_rows(shapes):
    """The least tuple of integers that has each integer at least as often as each of the shapes."""
    made = ()
    for k in range(1, MOST_SIZE + 1):
        made = made + (k,) * max([shape.count(k) for shape in shapes], default=0)
    return made


def rows_beside(rows, shape):
    """The integers that are left of `rows` if those of the shape are taken away."""
    made = ()
    for k in range(1, MOST_SIZE + 1):
        made = made + (k,) * (rows.count(k) - shape.count(k))
    return made


def product_over(poly, rows):
    """The product of u(k) over the integers k in the rows, u being the polynomial."""
    made = Poly.number(1)
    for k in rows:
        made = made * poly.stretched(k)
    return made


def divided_sum(some, bottom):
    """The sum with each tableau number divided by a polynomial."""
    pairs = []
    for shape, number in some.pairs:
        share = quotient_of(number, bottom)
        if share is None:
            raise Refused(("rest", shape))
        pairs.append((shape, share))
    return sum_of(some.size, pairs)


def taken_out(some, kind, shape):
    """The part of the sum that is left if the sum of a kind for a shape is taken out."""
    check_sum(some)
    check_kind(kind)
    check_shape(shape)
    size = some.size - sum(shape)
    if size < 1:
        raise InvalidOperation("the sum has no greater size than the shape")
    taken = Sum.of_kind(kind, shape)
    told = [(other, pairing(some, Sum.of_kind("s", other) * taken)) for other in partitions_of(size)]
    return sum_of(size, told)
