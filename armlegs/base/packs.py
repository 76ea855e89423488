"""Two ways to work out sums and products of many polynomials: packed into integers, or as they are.

Packed polynomials are their values with great powers of 2 in the places of q and t. Sums, products and quotients of
polynomials are those of their values, and integers are quick. But all powers must lie in few fields, and it must be
known how great the coefficients can become. Both ways have the same methods.
"""

from math import factorial

from armlegs.base.polys import Poly, divided, int_power, poly_of, weighted_sum

MOST_FIELDS = 600
MOST_BITS = 40000
# With so many binary digits more than the bound asks for, sums with letters put in do not outgrow their fields.
SPARE_BITS = 24


class Dense:
    """Packed polynomials. The least powers of a packed one are not packed, but known where it is unpacked.

    They are `low` for the numbers of a sum, and `low_beside` for those of another one. For a part with letters put in
    they are `floor`, a pair of integers up to 0, times the number of these letters, which is at most `most`. What is
    raised has `most` times `floor`.
    """

    def __init__(self, low, low_beside, floor, most, width, bits):
        self.low = low
        self.low_beside = low_beside
        self.floor = floor
        self.most = most
        self.width = width
        self.bits = bits

    def pack(self, poly):
        """A number of the sum, packed."""
        return packed(poly.rows, self.low, self.width, self.bits)

    def pack_beside(self, poly):
        """A number of the other sum, packed."""
        return packed(poly.rows, self.low_beside, self.width, self.bits)

    def letters(self, poly, many):
        """The polynomial with q ** many and t ** many put in, packed as a part with so many letters."""
        rows = [(i * many, j * many, c) for i, j, c in poly.rows]
        return packed(rows, (self.floor[0] * many, self.floor[1] * many), self.width, self.bits)

    def one(self):
        """The polynomial 1, as a part without letters."""
        return 1

    def total(self, parts):
        """The sum of the products of pairs (integer, packed polynomial)."""
        return sum([weight * value for weight, value in parts])

    def share(self, value, number):
        """The polynomial divided by an integer by which its coefficients can be divided."""
        return value // number

    def raised(self, value, many):
        """A part with so many letters with the least powers of one with all letters."""
        steps = (self.most - many) * (self.floor[0] * self.width + self.floor[1])
        return value << (-steps * self.bits)

    def is_zero(self, value):
        """Whether the polynomial is 0."""
        return value == 0

    def poly(self, value):
        """The polynomial of a number, times letters that are raised, unpacked."""
        return self.poly_from(value, self.low)

    def poly_beside(self, value):
        """As of `poly`, times a number of the other sum."""
        return self.poly_from(value, (self.low[0] + self.low_beside[0], self.low[1] + self.low_beside[1]))

    def poly_from(self, value, low):
        """A polynomial with letters that are raised, unpacked; the least powers beside those of letters are told."""
        least = (low[0] + self.most * self.floor[0], low[1] + self.most * self.floor[1])
        return poly_of(unpacked(value, least, self.width, self.bits))


class Sparse:
    """Polynomials as they are."""

    def pack(self, poly):
        """A number of the sum."""
        return poly

    def pack_beside(self, poly):
        """A number of the other sum."""
        return poly

    def letters(self, poly, many):
        """The polynomial with q ** many and t ** many put in."""
        return poly.stretched(many)

    def one(self):
        """The polynomial 1."""
        return Poly.number(1)

    def total(self, parts):
        """The sum of the products of pairs (integer, polynomial)."""
        return weighted_sum(parts)

    def share(self, value, number):
        """The polynomial divided by an integer by which its coefficients can be divided."""
        return divided(value, number)

    def raised(self, value, many):
        """The polynomial itself: its powers are known."""
        return value

    def is_zero(self, value):
        """Whether the polynomial is 0."""
        return len(value) == 0

    def poly(self, value):
        """The polynomial itself."""
        return value

    def poly_beside(self, value):
        """The polynomial itself."""
        return value


def packed(rows, low, width, bits):
    """The integer with the coefficients in fields of so many binary digits, from the least powers on."""
    least = low[0] * width + low[1]
    return sum([c << ((i * width + j - least) * bits) for i, j, c in rows])


def unpacked(value, low, width, bits):
    """The rows of a packed polynomial. `bits` is a multiple of 4.

    A half of the greatest coefficient is added in each field, so that none is below 0; then the digits of the base 16
    tell the fields.
    """
    if value == 0:
        return ()
    digits = bits // 4
    many = value.bit_length() // bits + 2
    half = 1 << (bits - 1)
    filled = value + half * (((1 << (bits * many)) - 1) // ((1 << bits) - 1))
    text = f"{filled:x}".zfill(digits * many)
    empty = "8" + "0" * (digits - 1)
    rows = []
    for place in range(many):
        field = text[(many - place - 1) * digits:(many - place) * digits]
        if field != empty:
            rows.append((low[0] + place // width, low[1] + place % width, int(field, 16) - half))
    return tuple(rows)


def bounds_of(rows):
    """The pairs of the least and of the greatest powers of rows that are not empty."""
    powers_q = [row[0] for row in rows]
    powers_t = [row[1] for row in rows]
    return ((min(powers_q), min(powers_t)), (max(powers_q), max(powers_t)))


def whole_weight(rows):
    """The sum of all coefficients, each taken above 0."""
    return sum([abs(row[2]) for row in rows])


def way_to_work(rows, beside, poly, size, spare):
    """The way for a sum of a size, and another one beside it, with letters put in.

    `rows` and `beside` are lists of the rows of the numbers of both sums. The product of all their coefficients, of
    those of the letters and of `size` factorial is the bound of what is made; `spare` binary digits are added.
    """
    if len(rows) == 0 or len(beside) == 0 or len(poly) == 0:
        return Sparse()
    low, high = bounds_of(rows)
    low_beside, high_beside = bounds_of(beside)
    least, most = bounds_of(poly.rows)
    floor = (min(0, least[0]), min(0, least[1]))
    spans = [
        high[k] - low[k] + high_beside[k] - low_beside[k] + size * (max(0, most[k]) - floor[k]) + 1
        for k in (0, 1)
    ]
    bound = whole_weight(rows) * whole_weight(beside) * int_power(whole_weight(poly.rows), size) * factorial(size)
    bits = (bound.bit_length() + spare + 3) // 4 * 4
    fields = spans[0] * spans[1]
    if fields > MOST_FIELDS or fields * bits > MOST_BITS:
        return Sparse()
    return Dense(low, low_beside, floor, size, spans[1], bits)
