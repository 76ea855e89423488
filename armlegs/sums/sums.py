"""Symmetric sums, told by one polynomial for each shape of their size."""

from math import factorial

from armlegs.base.checks import is_integer_from, is_shape_within
from armlegs.base.parts import SHAPES, turned_parts
from armlegs.base.polys import Poly, check_poly, divided, weighted_sum
from armlegs.errors import InvalidNumber, InvalidOperation, InvalidShape, InvalidSum, Refused, TooMany, UnknownName
from armlegs.sums.kinds import kind_row, kind_rows, opposite_rows, product_pairs
from armlegs.sums.tables import POWER_ROWS, RENAMINGS

MOST_SIZE = 6
KINDS = ("m", "e", "h", "p", "s")


class Sum:
    """A symmetric sum, told by its size and its tableau numbers; it never changes."""

    def __init__(self, size, pairs):
        if not is_integer_from(size, 0, MOST_SIZE):
            raise InvalidNumber(size)
        if not are_pairs(size, pairs):
            raise InvalidSum("these are no numbers at shapes of the size")
        self._size = size
        self._pairs = pairs

    @classmethod
    def of_kind(cls, kind, shape):
        """The sum of a kind for a shape."""
        check_kind(kind)
        if not is_shape_within(shape, 0, MOST_SIZE):
            raise InvalidShape("this is no shape of a size from 0 to 6")
        one = Poly.number(1)
        if kind == "s":
            return sum_of(sum(shape), [(shape, one)])
        return spread(sum(shape), [(kind_row(kind, shape), one)])

    @classmethod
    def from_numbers(cls, kind, size, pairs):
        """The only sum whose numbers of the kind are told so, 0 at other shapes."""
        check_kind(kind)
        told = Sum(size, pairs)
        if kind == "s":
            return told
        if kind == "p":
            return from_cycles(told)
        rows = opposite_rows(kind, size)
        return spread(size, [(rows[k], number) for k, number in placed_numbers(told)])

    @property
    def size(self):
        """How many letters its products have."""
        return self._size

    @property
    def pairs(self):
        """The pairs of the shapes and the tableau numbers other than 0."""
        return self._pairs

    def number_at(self, kind, shape):
        """The number of a kind at a shape."""
        check_kind(kind)
        if not is_shape_within(shape, self._size, self._size):
            raise InvalidShape("this is no shape of the size")
        if kind == "s":
            return number_among(self._pairs, shape)
        return paired(kind_row(kind, shape), placed_numbers(self))

    def numbers(self, kind):
        """The tuple of the pairs of the shapes and the numbers of a kind other than 0."""
        check_kind(kind)
        if kind == "s":
            return self._pairs
        placed = placed_numbers(self)
        told = [(shape, paired(row, placed)) for shape, row in zip(SHAPES[self._size], kind_rows(kind, self._size))]
        return tuple([(shape, number) for shape, number in told if len(number) > 0])

    def __add__(self, other):
        if not isinstance(other, Sum):
            return NotImplemented
        check_sizes(self, other)
        return gathered(self._size, signed_parts(self, 1) + signed_parts(other, 1))

    def __sub__(self, other):
        if not isinstance(other, Sum):
            return NotImplemented
        check_sizes(self, other)
        return gathered(self._size, signed_parts(self, 1) + signed_parts(other, -1))

    def __neg__(self):
        return gathered(self._size, signed_parts(self, -1))

    def __mul__(self, other):
        if not isinstance(other, Sum):
            return NotImplemented
        if self._size + other.size > MOST_SIZE:
            raise TooMany(MOST_SIZE)
        products = [(product_pairs(one, two), f * g) for one, f in self._pairs for two, g in other.pairs]
        parts = [(shape, many, number) for shapes, number in products for shape, many in shapes]
        return gathered(self._size + other.size, parts)

    def times(self, poly):
        """The sum with all numbers times a polynomial."""
        check_poly(poly)
        return sum_of(self._size, [(shape, number * poly) for shape, number in self._pairs])

    def turned(self):
        """The sum with the tableau numbers at turned shapes."""
        return gathered(self._size, [(turned_parts(shape), 1, number) for shape, number in self._pairs])

    def with_traded(self):
        """The sum with q and t traded in all numbers."""
        return sum_of(self._size, [(shape, number.traded()) for shape, number in self._pairs])

    def with_inverted(self):
        """The sum with 1 / q put for q and 1 / t for t in all numbers."""
        return sum_of(self._size, [(shape, number.inverted()) for shape, number in self._pairs])

    def __bool__(self):
        return bool(self._pairs)

    def __eq__(self, other):
        return isinstance(other, Sum) and self._size == other._size and self._pairs == other._pairs

    def __str__(self):
        return f"sum of size {self._size}, {len(self._pairs)} numbers"


def are_pairs(size, value):
    """Whether the value is a tuple of pairs of a shape of the size and a number, in the sequence of shapes."""
    if not isinstance(value, tuple) or not all([is_pair(size, pair) for pair in value]):
        return False
    return all([value[k - 1][0] > value[k][0] for k in range(1, len(value))])


def is_pair(size, value):
    """Whether the value is a pair of a shape of the size and a polynomial other than 0."""
    if not isinstance(value, tuple) or len(value) != 2:
        return False
    shape, number = value
    return is_shape_within(shape, size, size) and isinstance(number, Poly) and len(number) > 0


def check_sum(some):
    """Refuse what is no symmetric sum."""
    if not isinstance(some, Sum):
        raise InvalidSum("this is no symmetric sum")


def check_kind(kind):
    """Refuse what is no kind."""
    if kind not in KINDS:
        raise UnknownName(kind)


def check_sizes(one, other):
    """Refuse two sums of unlike sizes."""
    if one.size != other.size:
        raise InvalidOperation("the sums have unlike sizes")


def sum_of(size, pairs):
    """A sum with the right pairs of a list, of which those with the number 0 are left out."""
    made = Sum(size, ())
    made._pairs = tuple([(shape, number) for shape, number in pairs if len(number) > 0])
    return made


def gathered(size, parts):
    """The sum of the triples (shape, integer, polynomial): these tableau sums times these integers and polynomials."""
    found = {}
    for shape, weight, number in parts:
        found.setdefault(shape, []).append((weight, number))
    return sum_of(size, [(shape, weighted_sum(found[shape])) for shape in SHAPES[size] if shape in found])


def signed_parts(some, sign):
    """The list of triples, as of `gathered`, of a sum with a sign."""
    return [(shape, sign, number) for shape, number in some.pairs]


def number_among(pairs, shape):
    """The number at a shape among pairs, 0 if there is none."""
    for other, number in pairs:
        if other == shape:
            return number
    return Poly(())


def placed_numbers(some):
    """The list of the pairs of the index of a shape, in the sequence of its size, and of its tableau number."""
    shapes = SHAPES[some.size]
    return [(shapes.index(shape), number) for shape, number in some.pairs]


def paired(row, placed):
    """The pairing of a sum, told as of `placed_numbers`, with the one that has a row of integers as tableau numbers."""
    return weighted_sum([(row[k], number) for k, number in placed])


def spread(size, parts):
    """The sum of the pairs (row of integers at all shapes, polynomial): these sums times these polynomials."""
    return sum_of(size, [
        (shape, weighted_sum([(row[k], number) for row, number in parts]))
        for k, shape in enumerate(SHAPES[size])
    ])


def from_cycles(told):
    """The sum whose numbers of the kind "p" are the tableau numbers of the told one."""
    whole = factorial(told.size)
    pairs = []
    for shape, number in whole_numbers(told).pairs:
        share = divided(number, whole)
        if share is None:
            raise Refused(("fraction", shape))
        pairs.append((shape, share))
    return sum_of(told.size, pairs)


def whole_numbers(told):
    """As of `from_cycles`, but with n! times each number, so that all of them have integers."""
    rows = POWER_ROWS[told.size]
    counts = RENAMINGS[told.size]
    placed = [([counts[c] * trace for trace in rows[c]], number) for c, number in placed_numbers(told)]
    return spread(told.size, placed)


def pairing(one, other):
    """The sum over all shapes of the products of the tableau numbers."""
    check_sum(one)
    check_sum(other)
    check_sizes(one, other)
    others = {shape: number for shape, number in other.pairs}
    return weighted_sum([(1, number * others[shape]) for shape, number in one.pairs if shape in others])


def standard_number(f):
    """The number of the kind "h" at (1, .., 1)."""
    check_sum(f)
    return f.number_at("h", (1,) * f.size)
