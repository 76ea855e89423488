"""Symmetric sums, told by one polynomial for each shape of their size."""

from math import factorial

from armlegs.base.checks import is_integer_from, is_shape_within
from armlegs.base.parts import partitions_of, turned_parts, z_number
from armlegs.base.polys import Poly, check_poly, divided, weighted_sum
from armlegs.errors import InvalidNumber, InvalidOperation, InvalidShape, InvalidSum, Refused, TooMany, UnknownName
from armlegs.sums.kinds import kind_table, kind_tables, opposite_tables, product_table

MOST_SIZE = 6
KINDS = ("m", "e", "h", "p", "s")


class Sum:
    """A symmetric sum, told by its size and its tableau numbers; it never changes."""

    def __init__(self, size, pairs):
        if not is_integer_from(size, 0, MOST_SIZE):
            raise InvalidNumber(size)
        if not are_pairs(size, pairs):
            raise InvalidSum("these are no numbers at shapes of the size")
        self._size = size
        self._pairs = pairs

    @classmethod
    def of_kind(cls, kind, shape):
        """The sum of a kind for a shape."""
        check_kind(kind)
        if not is_shape_within(shape, 0, MOST_SIZE):
            raise InvalidShape("this is no shape of a size from 0 to 6")
        return combined(sum(shape), [(kind_table(kind, shape), Poly.number(1))])

    @classmethod
    def from_numbers(cls, kind, size, pairs):
        """The only sum whose numbers of the kind are told so, 0 at other shapes."""
        check_kind(kind)
        told = Sum(size, pairs)
        if kind == "p":
            return from_cycles(told)
        tables = opposite_tables(kind, size)
        return combined(size, [(tables[shape], number) for shape, number in pairs])

    @property
    def size(self):
        """How many letters its products have."""
        return self._size

    @property
    def pairs(self):
        """The pairs of the shapes and the tableau numbers other than 0."""
        return self._pairs

    def number_at(self, kind, shape):
        """The number of a kind at a shape."""
        check_kind(kind)
        if not is_shape_within(shape, self._size, self._size):
            raise InvalidShape("this is no shape of the size")
        return paired(self, kind_table(kind, shape))

    def numbers(self, kind):
        """The tuple of the pairs of the shapes and the numbers of a kind other than 0."""
        check_kind(kind)
        tables = kind_tables(kind, self._size)
        told = [(shape, paired(self, tables[shape])) for shape in partitions_of(self._size)]
        return tuple([(shape, number) for shape, number in told if len(number) > 0])

    def __add__(self, other):
        if not isinstance(other, Sum):
            return NotImplemented
        check_sizes(self, other)
        return combined(self._size, parts_of(self, 1) + parts_of(other, 1))

    def __sub__(self, other):
        if not isinstance(other, Sum):
            return NotImplemented
        check_sizes(self, other)
        return combined(self._size, parts_of(self, 1) + parts_of(other, -1))

    def __neg__(self):
        return combined(self._size, parts_of(self, -1))

    def __mul__(self, other):
        if not isinstance(other, Sum):
            return NotImplemented
        if self._size + other.size > MOST_SIZE:
            raise TooMany(MOST_SIZE)
        parts = [(product_table(one, two), f * g) for one, f in self._pairs for two, g in other.pairs]
        return combined(self._size + other.size, parts)

    def times(self, poly):
        """The sum with all numbers times a polynomial."""
        check_poly(poly)
        return sum_of(self._size, [(shape, number * poly) for shape, number in self._pairs])

    def turned(self):
        """The sum with the tableau numbers at turned shapes."""
        return combined(self._size, [({turned_parts(shape): 1}, number) for shape, number in self._pairs])

    def with_traded(self):
        """The sum with q and t traded in all numbers."""
        return sum_of(self._size, [(shape, number.traded()) for shape, number in self._pairs])

    def with_inverted(self):
        """The sum with 1 / q put for q and 1 / t for t in all numbers."""
        return sum_of(self._size, [(shape, number.inverted()) for shape, number in self._pairs])

    def __bool__(self):
        return bool(self._pairs)

    def __eq__(self, other):
        return isinstance(other, Sum) and self._size == other._size and self._pairs == other._pairs

    def __str__(self):
        return f"sum of size {self._size}, {len(self._pairs)} numbers"


def are_pairs(size, value):
    """Whether the value is a tuple of pairs of a shape of the size and a number, in the sequence of shapes."""
    if not isinstance(value, tuple) or not all([is_pair(size, pair) for pair in value]):
        return False
    return all([value[k - 1][0] > value[k][0] for k in range(1, len(value))])


def is_pair(size, value):
    """Whether the value is a pair of a shape of the size and a polynomial other than 0."""
    if not isinstance(value, tuple) or len(value) != 2:
        return False
    shape, number = value
    return is_shape_within(shape, size, size) and isinstance(number, Poly) and len(number) > 0


def check_sum(some):
    """Refuse what is no symmetric sum."""
    if not isinstance(some, Sum):
        raise InvalidSum("this is no symmetric sum")


def check_kind(kind):
    """Refuse what is no kind."""
    if kind not in KINDS:
        raise UnknownName(kind)


def check_sizes(one, other):
    """Refuse two sums of unlike sizes."""
    if one.size != other.size:
        raise InvalidOperation("the sums have unlike sizes")


def sum_of(size, pairs):
    """A sum with the right pairs of a list, of which those with the number 0 are left out."""
    made = Sum(size, ())
    made._pairs = tuple([(shape, number) for shape, number in pairs if len(number) > 0])
    return made


def combined(size, parts):
    """The sum of the pairs (dict from shapes to integers, polynomial): these sums times these polynomials."""
    return sum_of(size, [
        (shape, weighted_sum([(table.get(shape, 0), number) for table, number in parts]))
        for shape in partitions_of(size)
    ])


def parts_of(some, sign):
    """The list of parts, as of `combined`, of a sum with a sign."""
    return [({shape: sign}, number) for shape, number in some.pairs]


def paired(some, table):
    """The pairing of a sum with the one that has these integers as tableau numbers."""
    return weighted_sum([(table.get(shape, 0), number) for shape, number in some.pairs])


def from_cycles(told):
    """The sum whose numbers of the kind "p" are the tableau numbers of the told one."""
    whole = factorial(told.size)
    pairs = []
    for shape, number in whole_numbers(told).pairs:
        share = divided(number, whole)
        if share is None:
            raise Refused(("fraction", shape))
        pairs.append((shape, share))
    return sum_of(told.size, pairs)


def whole_numbers(told):
    """As of `from_cycles`, but with n! times each number, so that all of them have integers."""
    whole = factorial(told.size)
    tables = kind_tables("p", told.size)
    weights = [(tables[cycles], whole // z_number(cycles), number) for cycles, number in told.pairs]
    parts = [({shape: table[shape] * weight for shape in table}, number) for table, weight, number in weights]
    return combined(told.size, parts)


def pairing(one, other):
    """The sum over all shapes of the products of the tableau numbers."""
    check_sum(one)
    check_sum(other)
    check_sizes(one, other)
    others = {shape: number for shape, number in other.pairs}
    return weighted_sum([(1, number * others[shape]) for shape, number in one.pairs if shape in others])


def standard_number(f):
    """The number of the kind "h" at (1, .., 1)."""
    check_sum(f)
    return f.number_at("h", (1,) * f.size)
