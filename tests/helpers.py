"""What several tests share: values of the document, wrong values, and sums worked out by counting."""

from fractions import Fraction
from itertools import permutations, product

from armlegs.base.polys import Poly
from armlegs.sums.sums import Sum

Q = Poly.letter(1, 0)
T = Poly.letter(0, 1)
ONE = Poly.number(1)
ZERO = Poly(())
HOOK = Sum(3, (((3,), ONE), ((2, 1), Q + T), ((1, 1, 1), Q * T)))

# No one of these is an integer that can be passed.
NO_INTEGERS = (
    None, True, False, "", "1", "one", (), (1,), [], [1], {}, {1: 1}, ONE, HOOK, 10 ** 60, -(10 ** 60), 10 ** 219,
)
# No one of these is a shape, a composition, a word, a content or a pair of any kind.
NO_TUPLES = (
    None, True, False, 0, 1, 3, -1, 10 ** 60, "", "3", "abc", [], [3], [2, 1], [1, 1], {}, {3: 1}, ONE, HOOK,
    (True,), (None,), ("3",), ([3],), ((3,),), (ONE,), (10 ** 60,), (True, True), (2, True), (2, "1"), (2, None),
    (2, -1), (-1,), (2, [1]), (2, (1,)), {"a": (1,)}, (((((((1,),),),),),),),
)


def refuse(test, kind, kept, call, *given, **named):
    """Check that a call raises exactly this error, and that it keeps exactly this."""
    with test.assertRaises(kind) as caught:
        call(*given, **named)
    error = caught.exception
    test.assertIs(type(error), kind, (call, given))
    if kept is not None:
        name, value = kept
        test.assertEqual(getattr(error, name), value)
        test.assertIs(type(getattr(error, name)), type(value))


def all_shapes(size):
    """The shapes of a size, found among all tuples, descending."""
    found = [()] if size == 0 else []
    for count in range(1, size + 1):
        for parts in product(range(1, size + 1), repeat=count):
            if sum(parts) == size and list(parts) == sorted(parts, reverse=True):
                found.append(parts)
    return sorted(found, reverse=True)


def all_contents(size, count):
    """All tuples of so many integers from 0 on with this sum."""
    return [parts for parts in product(range(size + 1), repeat=count) if sum(parts) == size]


def squares(shape):
    """The squares of a shape, as a set."""
    return {(row, column) for row, length in enumerate(shape) for column in range(length)}


def cycles_of(renaming):
    """The cycles of a renaming of 0, 1, .., told as the tuple of its values."""
    lengths = []
    seen = set()
    for start in range(len(renaming)):
        length = 0
        at = start
        while at not in seen:
            seen.add(at)
            length += 1
            at = renaming[at]
        if length:
            lengths.append(length)
    return tuple(sorted(lengths, reverse=True))


def brute_tableaux(shape, content):
    """The tableaux of a shape with a content, found among all fillings, ascending."""
    numbers = [k + 1 for k, many in enumerate(content) for _ in range(many)]
    found = set()
    for filled in set(permutations(numbers)):
        rows = []
        at = 0
        for length in shape:
            rows.append(filled[at:at + length])
            at += length
        level = all(row[k] <= row[k + 1] for row in rows for k in range(len(row) - 1))
        steep = all(low[k] < high[k] for low, high in zip(rows, rows[1:]) for k in range(len(high)))
        if level and steep:
            found.add(tuple(rows))
    return sorted(found)


def count_tables(rows, columns, most):
    """How many tables of integers from 0 to `most` have these sums of rows and columns."""
    if not rows:
        return 1 if not any(columns) else 0
    found = 0
    for row in product(*[range(min(most, left) + 1) for left in columns]):
        if sum(row) == rows[0]:
            found += count_tables(rows[1:], tuple(left - used for left, used in zip(columns, row)), most)
    return found


def count_spreads(parts, columns):
    """In how many ways each part can be put into one column, such that these are the sums of the columns."""
    if not parts:
        return 1 if not any(columns) else 0
    found = 0
    for k, left in enumerate(columns):
        if left >= parts[0]:
            found += count_spreads(parts[1:], columns[:k] + (left - parts[0],) + columns[k + 1:])
    return found


_COUNTED = {}


def coefficient(kind, shape, powers):
    """The coefficient of the letters with these powers, a shape, in the sum of a kind, by its definition."""
    key = (kind, shape, powers)
    if key not in _COUNTED:
        if kind == "m":
            _COUNTED[key] = 1 if shape == powers else 0
        elif kind == "e":
            _COUNTED[key] = count_tables(shape, powers, 1)
        elif kind == "h":
            _COUNTED[key] = count_tables(shape, powers, 6)
        elif kind == "p":
            _COUNTED[key] = count_spreads(shape, powers)
        else:
            _COUNTED[key] = len(brute_tableaux(shape, powers))
    return _COUNTED[key]


def expanded(some):
    """The coefficients of a sum at the products of letters, a dict from shapes to polynomials, by its pairs."""
    found = {}
    for powers in all_shapes(some.size):
        made = ZERO
        for shape, number in some.pairs:
            made = made + number * Poly.number(coefficient("s", shape, powers))
        found[powers] = made
    return found


def at_letters(some, letters):
    """The value of a sum at letters that are told as polynomials, by its products of letters."""
    made = ZERO
    for powers, number in expanded(some).items():
        padded = powers + (0,) * (len(letters) - len(powers))
        if len(padded) == len(letters):
            for spread in sorted(set(permutations(padded))):
                term = number
                for letter, power in zip(letters, spread):
                    term = term * letter.power(power)
                made = made + term
    return made


def value(poly, q, t):
    """The value of a polynomial, a fraction."""
    return sum((Fraction(c) * Fraction(q) ** i * Fraction(t) ** j for i, j, c in poly.rows), Fraction(0))


def sample_sums(size):
    """Some sums of a size, with powers and coefficients below 0 too."""
    numbers = (ONE, Q + T, Q * T - ONE, Poly.letter(-1, 2) + Poly.number(3), -Q, Poly.letter(0, -2) - Q)
    shapes = all_shapes(size)
    found = [Sum(size, ())]
    found.append(Sum(size, tuple((shape, numbers[k % 6]) for k, shape in enumerate(shapes))))
    found.append(Sum(size, tuple((shape, numbers[(k + 2) % 6]) for k, shape in enumerate(shapes) if k % 2 == 0)))
    found.append(Sum(size, ((shapes[-1], numbers[3]),)))
    return found
