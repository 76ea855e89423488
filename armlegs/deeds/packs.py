"""Polynomials packed into one integer each: their values with great powers of 2 in the places of q and t.

Sums, products and quotients of polynomials are those of their values. So what is known to be a polynomial within
the bounds can be read off its value, in whatever way it was made; what it was made of need not be within them.
"""

from armlegs.base.polys import int_power, poly_of

# The bounds: coefficients from -2 ** 15 to 2 ** 15 - 1, powers of q from 0 to 31, and powers of t from 0 on.
GREAT_Q = 65536
MANY_POWERS = 32
HALF = 32768


def packed(poly):
    """The value of a polynomial, without powers below 0, at the great powers of 2."""
    return sum([c * int_power(GREAT_Q, i + MANY_POWERS * j) for i, j, c in poly.rows])


def unpacked(number):
    """The polynomial within the bounds that has this value."""
    rows = []
    left = number
    place = 0
    while left != 0:
        c = (left + HALF) % GREAT_Q - HALF
        if c != 0:
            rows.append((place % MANY_POWERS, place // MANY_POWERS, c))
        left = (left - c) // GREAT_Q
        place = place + 1
    return poly_of(tuple(sorted(rows)))
