"""Polynomials in q and t with integers ahead of their terms; powers can be below 0."""

from math import gcd

from armlegs.base.checks import is_integer, is_integer_from
from armlegs.base.rows import are_rows, least_power, product_rows, quotient_rows, rows_of_table
from armlegs.errors import InvalidNumber, InvalidOperation, InvalidPoly, Refused

MOST_ROWS = 400
MOST_POWER = 200
MAX_POWER = 20
MOST_VALUE = 1000


class Poly:
    """A sum of terms c q ** i t ** j, told by its rows; it never changes."""

    def __init__(self, rows):
        if not are_rows(rows, MOST_ROWS, MOST_POWER):
            raise InvalidPoly("these are no rows of a polynomial")
        self._rows = rows

    @classmethod
    def number(cls, c):
        """The number c."""
        if not is_integer(c):
            raise InvalidNumber(c)
        if c == 0:
            return cls(())
        return cls(((0, 0, c),))

    @classmethod
    def letter(cls, i, j):
        """The term q ** i t ** j."""
        check_powers(i, j)
        return cls(((i, j, 1),))

    @property
    def rows(self):
        """The ascending tuple of the triples (i, j, c)."""
        return self._rows

    def __len__(self):
        return len(self._rows)

    def __eq__(self, other):
        return isinstance(other, Poly) and self._rows == other._rows

    def __str__(self):
        return f"poly of {len(self._rows)} rows"

    def __add__(self, other):
        if not isinstance(other, Poly):
            return NotImplemented
        return weighted_sum([(1, self), (1, other)])

    def __sub__(self, other):
        if not isinstance(other, Poly):
            return NotImplemented
        return weighted_sum([(1, self), (-1, other)])

    def __mul__(self, other):
        if not isinstance(other, Poly):
            return NotImplemented
        return poly_of(product_rows(self._rows, other._rows))

    def __neg__(self):
        return weighted_sum([(-1, self)])

    def power(self, many):
        """The product of `many` equal polynomials."""
        if not is_integer_from(many, 0, MAX_POWER):
            raise InvalidNumber(many)
        made = Poly.number(1)
        for _ in range(many):
            made = made * self
        return made

    def shifted(self, i, j):
        """The product with q ** i t ** j."""
        check_powers(i, j)
        return poly_of(tuple([(k + i, m + j, c) for k, m, c in self._rows]))

    def traded(self):
        """The polynomial with q and t traded."""
        return poly_of(tuple(sorted([(j, i, c) for i, j, c in self._rows])))

    def inverted(self):
        """The polynomial with 1 / q in the place of q and 1 / t in that of t."""
        return poly_of(tuple(sorted([(-i, -j, c) for i, j, c in self._rows])))

    def stretched(self, many):
        """The polynomial with q ** many in the place of q and t ** many in that of t."""
        if not is_integer_from(many, 1, MAX_POWER):
            raise InvalidNumber(many)
        return poly_of(tuple([(i * many, j * many, c) for i, j, c in self._rows]))

    def at(self, q, t):
        """The value, a pair (top, bottom) in lowest terms with the bottom above 0."""
        for given in (q, t):
            if not is_integer_from(given, -MOST_VALUE, MOST_VALUE) or given == 0:
                raise InvalidNumber(given)
        if len(self._rows) == 0:
            return (0, 1)
        low_q = min(0, least_power(self._rows, 0))
        low_t = min(0, least_power(self._rows, 1))
        top = sum([c * int_power(q, i - low_q) * int_power(t, j - low_t) for i, j, c in self._rows])
        bottom = int_power(q, -low_q) * int_power(t, -low_t)
        shared = gcd(top, bottom)
        if bottom < 0:
            shared = -shared
        return (top // shared, bottom // shared)

    def over(self, other):
        """The polynomial whose product with `other` is this one."""
        check_poly(other)
        if len(other) == 0:
            raise InvalidOperation("0 has no quotients")
        made = quotient_of(self, other)
        if made is None:
            raise Refused(("rest",))
        return made

    def is_positive(self):
        """Whether no coefficient is below 0."""
        return all([row[2] > 0 for row in self._rows])


def check_poly(poly):
    """Refuse what is no polynomial."""
    if not isinstance(poly, Poly):
        raise InvalidPoly("this is no polynomial")


def check_powers(i, j):
    """Refuse the first of two powers that cannot be passed."""
    for given in (i, j):
        if not is_integer_from(given, -MOST_POWER, MOST_POWER):
            raise InvalidNumber(given)


def int_power(base, many):
    """The integer base ** many, for any integer `many` from 0 on."""
    made = 1
    square = base
    left = many
    while left > 0:
        if left % 2 == 1:
            made = made * square
        square = square * square
        left = left // 2
    return made


def poly_of(rows):
    """A polynomial with these rows, which are right but can be beyond what callers pass."""
    made = Poly(())
    made._rows = rows
    return made


def weighted_sum(parts):
    """The sum of the products of the pairs (integer, polynomial) of a list."""
    told = [(weight, poly) for weight, poly in parts if weight != 0 and len(poly) > 0]
    if len(told) == 1:
        weight, poly = told[0]
        return poly if weight == 1 else poly_of(tuple([(i, j, weight * c) for i, j, c in poly.rows]))
    table = {}
    for weight, poly in told:
        for i, j, c in poly.rows:
            table[(i, j)] = table.get((i, j), 0) + weight * c
    return poly_of(rows_of_table(table))


def quotient_of(one, other):
    """The polynomial whose product with `other`, which is not 0, is `one`, or None if there is none."""
    rows = quotient_rows(one.rows, other.rows)
    if rows is None:
        return None
    return poly_of(rows)


def divided(poly, number):
    """The polynomial with each coefficient divided by an integer, or None if one has no integer as its quotient."""
    if any([row[2] % number != 0 for row in poly.rows]):
        return None
    return poly_of(tuple([(i, j, c // number) for i, j, c in poly.rows]))
