"""Spaces of polynomials: [15.1] to [15.8]."""

import unittest
from fractions import Fraction
from itertools import combinations, permutations, product
from math import factorial

from armlegs.base.polys import Poly
from armlegs.base.shapes import rise, squares_of, turned_shape
from armlegs.deeds.nabla import elementary_image
from armlegs.errors import InvalidNumber, InvalidOperation, InvalidShape, TooMany
from armlegs.fill.fillings import shape_sum
from armlegs.paths.paths import path_sum
from armlegs.rooms import spaces
from armlegs.rooms.spaces import (
    derived, determinant, harmonic_basis, harmonic_degrees, harmonic_sum, is_harmonic, is_harmonic_basis,
    is_space_basis, space_basis, space_degrees, space_sum,
)
from armlegs.sums.sums import Sum
from tests.helpers import HOOK, NO_INTEGERS, NO_TUPLES, ONE, Q, T, all_shapes, cycles_of, refuse
from tests.test_shapes import NO_SHAPES

SIZES = range(1, 5)
PLACES = [(row, column) for row in range(4) for column in range(4)]
SMALL = [shape for size in SIZES for shape in all_shapes(size)]
FLAT = ((0, 0), (0, 1))
NO_LOTS = NO_TUPLES + (
    (), ((0, 0), (0, 0)), ((0, 1), (0, 0)), ((1, 0), (0, 1)), ((0, 4),), ((4, 0),), ((-1, 0),), ((0, -1),),
    ((0, 0), (0, 1), (0, 2), (0, 3), (1, 0)), ((0,),), ((0, 0, 0),), (0, 0), ((0, True),), ((False, 0),), ((0, None),),
    ([0, 0],), [(0, 0)], ((0, "0"),), ((0, 0), None), ("00",), {(0, 0): 1}, ((0, 10 ** 60),), ((0, 0), (0, ONE)),
)
# No one of these is a form in two pairs of letters.
NO_FORMS = NO_TUPLES + (
    (((0, 0, 0), 1),), (((0, 0, 0, 0, 0), 1),), (((0, 0, 0, 0), 0),), (((0, 0, 0, 0), True),), (((0, 0, 0, 0), None),),
    (((0, 0, 0, 0), 10 ** 60),), (((0, 0, 0, 21), 1),), (((0, 0, 0, -1), 1),), (((0, 0, 0, True), 1),),
    (((0, 0, 0, 0), 1, 1),), (((0, 0, 0, 0),),), ([(0, 0, 0, 0), 1],), (([0, 0, 0, 0], 1),), [((0, 0, 0, 0), 1)],
    (((0, 0, 0, 1), 1), ((0, 0, 0, 0), 1)), (((0, 0, 0, 1), 1), ((0, 0, 0, 1), 2)), ((0, 0, 0, 0), 1),
    {(0, 0, 0, 0): 1}, (((0, 0, 0, 0), "1"),), (((0, 0, 0, 0), ONE),), (((0, 0, 0, "0"), 1),), ("0000",),
    (((0, 0, 0, 0), 1), None), (((0, 0, 0, 10 ** 60), 1),),
)
NO_DEGREES = NO_TUPLES + (
    (), (0,), (0, 0, 0), (0, 13), (13, 0), (0, -1), (-1, 0), (0, True), (False, 0), (0, None), (0, "0"), [0, 0], "00",
    {0: 0}, (0, 10 ** 60), ((0, 0),), (0, (0,)), (ONE, ONE),
)
# Exactly 2000 pairs: products of letters in two pairs of letters, ascending.
LONGEST = tuple((powers, 10 ** 60 - 1) for powers in sorted(product(range(21), repeat=4))[:2000])


def plain(table):
    """The form with the coefficients of a dict."""
    return tuple(sorted((powers, c) for powers, c in table.items() if c))


def brute_determinant(squares):
    made = {}
    for order in permutations(range(len(squares))):
        sign = 1
        for k in range(len(order)):
            for j in range(k):
                sign = -sign if order[j] > order[k] else sign
        powers = tuple(squares[k][1] for k in order) + tuple(squares[k][0] for k in order)
        made[powers] = made.get(powers, 0) + sign
    return plain(made)


def brute_derived(form, at):
    made = {}
    for powers, c in form:
        if powers[at]:
            made[powers[:at] + (powers[at] - 1,) + powers[at + 1:]] = c * powers[at]
    return plain(made)


def degrees_of(form):
    """The degrees of a form with one pair of them."""
    half = len(form[0][0]) // 2
    found = {(sum(powers[:half]), sum(powers[half:])) for powers, _ in form}
    return found.pop() if len(found) == 1 else None


def echelon(forms):
    """Rows with rational numbers, each with 1 at its greatest powers, where the other ones have 0."""
    rows = {}
    for form in forms:
        left = {powers: Fraction(c) for powers, c in form}
        for lead, row in rows.items():
            if lead in left:
                taken(left, row, left[lead])
        if left:
            lead = max(left)
            top = left[lead]
            left = {powers: c / top for powers, c in left.items()}
            for row in rows.values():
                if lead in row:
                    taken(row, left, row[lead])
            rows[lead] = left
    return rows


def taken(left, row, factor):
    for powers, c in row.items():
        left[powers] = left.get(powers, 0) - factor * c
        if not left[powers]:
            del left[powers]


def closed(first, steps):
    """A dict from degrees to echelons of what comes of a form by some steps, again and again."""
    found, new = {}, [first]
    while new:
        form = new.pop()
        rows = found.setdefault(degrees_of(form), {})
        grown = echelon([tuple(row.items()) for row in rows.values()] + [form])
        if len(grown) > len(rows):
            found[degrees_of(form)] = grown
            new.extend(made for made in (step(form) for step in steps) if made)
    return found


def brute_space(squares):
    steps = [lambda form, at=at: brute_derived(form, at) for at in range(2 * len(squares))]
    return closed(brute_determinant(squares), steps)


def led_up(form, k):
    """The sum over all things of y times the k-th derivative by x."""
    made = {}
    n = len(form[0][0]) // 2
    for at in range(n):
        one = form
        for _ in range(k):
            one = brute_derived(one, at)
        for powers, c in one:
            more = powers[:n + at] + (powers[n + at] + 1,) + powers[n + at + 1:]
            made[more] = made.get(more, 0) + c
    return plain(made)


def brute_harmonics(n):
    steps = [lambda form, at=at: brute_derived(form, at) for at in range(2 * n)]
    steps += [lambda form, k=k: led_up(form, k) for k in range(1, n)]
    return closed(brute_determinant(tuple((0, k) for k in range(n))), steps)


def is_brute_harmonic(n, form):
    for a in range(n + 2):
        for b in range(n + 2):
            made = {}
            for at in range(n):
                one = form
                for letter in [at] * a + [n + at] * b:
                    one = brute_derived(one, letter)
                for powers, c in one:
                    made[powers] = made.get(powers, 0) + c
            if a + b and plain(made):
                return False
    return True


def rank_by_remainders(forms):
    """How many forms are independent if integers are taken modulo a prime: with great primes as many as without."""
    prime = 2 ** 31 - 1
    rows = {}
    for form in forms:
        left = {powers: c % prime for powers, c in form.items()}
        while left:
            lead = max(left)
            if lead not in rows:
                inverse = pow(left[lead], -1, prime)
                rows[lead] = {powers: c * inverse % prime for powers, c in left.items()}
                break
            factor = left[lead]
            for powers, c in rows[lead].items():
                left[powers] = (left.get(powers, 0) - factor * c) % prime
                if not left[powers]:
                    del left[powers]
    return len(rows)


def ranked_degrees(squares):
    """The degrees of the space, by the derivatives by all products of letters at once."""
    n = len(squares)
    found = {}
    for powers, c in brute_determinant(squares):
        for step in product(*[range(power + 1) for power in powers]):
            left = tuple(power - less for power, less in zip(powers, step))
            for power, less in zip(powers, step):
                c = c * factorial(power) // factorial(power - less)
            made = found.setdefault((sum(left[:n]), sum(left[n:])), {}).setdefault(step, {})
            made[left] = made.get(left, 0) + c
            for power, less in zip(powers, step):
                c = c * factorial(power - less) // factorial(power)
    return Poly(tuple((a, b, rank_by_remainders(found[a, b].values())) for a, b in sorted(found)))


def poly_of_counts(found):
    return Poly(tuple(sorted((a, b, len(rows)) for (a, b), rows in found.items())))


def brute_sum(n, found):
    """The sum with the traces of renamings as its numbers of the kind "p"."""
    numbers = {}
    for renaming in permutations(range(n)):
        cycles = cycles_of(renaming)
        if cycles not in numbers:
            table = {}
            for degrees, rows in found.items():
                table[degrees] = sum(renamed(row, renaming).get(lead, 0) for lead, row in rows.items())
            numbers[cycles] = Poly(tuple((a, b, int(table[a, b])) for a, b in sorted(table) if table[a, b]))
    pairs = tuple((cycles, numbers[cycles]) for cycles in all_shapes(n) if len(numbers[cycles]))
    return Sum.from_numbers("p", n, pairs)


def renamed(row, renaming):
    n = len(renaming)
    made = {}
    for powers, c in row.items():
        x, y = [0] * n, [0] * n
        for k in range(n):
            x[renaming[k]], y[renaming[k]] = powers[k], powers[n + k]
        made[tuple(x + y)] = c
    return made


def mixed(basis):
    """Another basis of the same forms: sums of neighbours, turned round and made longer."""
    made = []
    for k, form in enumerate(basis):
        table = {powers: c * 10 ** 20 for powers, c in form}
        for powers, c in (basis[k - 1] if k else ()):
            table[powers] = table.get(powers, 0) - 7 * c
        made.append(plain(table))
    return tuple(reversed(made))


class TestForms(unittest.TestCase):
    def test_constants(self):
        self.assertEqual((spaces.MOST_PAIRS, spaces.MOST_TERMS), (4, 2000))

    def test_determinant(self):
        for size in SIZES:
            for squares in list(combinations(PLACES, size))[::1 if size < 4 else 17]:
                self.assertEqual(determinant(squares), brute_determinant(squares))
        self.assertEqual(determinant(((0, 0),)), (((0, 0), 1),))
        self.assertEqual(determinant(((3, 2),)), (((2, 3), 1),))

    def test_lot_errors(self):
        for wrong in NO_LOTS:
            for call in (determinant, space_degrees):
                refuse(self, InvalidOperation, None, call, wrong)
            refuse(self, InvalidOperation, None, space_basis, wrong, (0, 0))
            refuse(self, InvalidOperation, None, space_basis, wrong, None)
            refuse(self, InvalidOperation, None, is_space_basis, wrong, (0, 0), ())

    def test_derived(self):
        for squares in (FLAT, ((0, 0), (1, 0)), ((0, 0), (0, 1), (2, 3)), ((1, 2), (1, 3), (2, 0), (3, 3))):
            n = len(squares)
            form = determinant(squares)
            for at in range(2 * n):
                made = derived(n, form, at)
                self.assertEqual(made, brute_derived(form, at))
                for again in range(2 * n):
                    self.assertEqual(derived(n, made, again), brute_derived(made, again))
        self.assertEqual(derived(1, (), 0), ())
        self.assertEqual(derived(4, (), 7), ())
        self.assertEqual(derived(1, (((0, 20), 10 ** 60 - 1),), 1), (((0, 19), 20 * (10 ** 60 - 1)),))
        self.assertEqual(derived(2, LONGEST, 3), brute_derived(LONGEST, 3))

    def test_derived_errors(self):
        for wrong in NO_INTEGERS + (0, 5, -1):
            refuse(self, InvalidNumber, ("given", wrong), derived, wrong, (), 0)
            refuse(self, InvalidNumber, ("given", wrong), derived, wrong, None, None)
        for wrong in NO_FORMS + (LONGEST + (((20,) * 4, 1),),):
            refuse(self, InvalidOperation, None, derived, 2, wrong, 0)
            refuse(self, InvalidOperation, None, derived, 2, wrong, None)
        for wrong in NO_INTEGERS + (-1, 4, 10):
            refuse(self, InvalidNumber, ("given", wrong), derived, 2, determinant(FLAT), wrong)
        refuse(self, InvalidNumber, ("given", 2), derived, 1, (((1, 1), 1),), 2)
        refuse(self, InvalidOperation, None, derived, 2, derived(1, (((0, 20), 10 ** 60 - 1),), 1), 0)
        too_long = derived(1, (((0, 20), 10 ** 60 - 1),), 1)
        refuse(self, InvalidOperation, None, derived, 1, too_long, 0)


class TestSpaces(unittest.TestCase):
    def test_degrees(self):
        for size in (1, 2):
            for squares in combinations(PLACES, size):
                self.assertEqual(space_degrees(squares), poly_of_counts(brute_space(squares)))
        lots = [lot for lot in combinations(PLACES, 3) if sum(row + column for row, column in lot) < 7]
        lots += [((0, 1), (1, 1), (3, 3)), ((0, 3), (1, 2), (2, 1)), ((1, 0), (2, 3), (3, 0))]
        for squares in lots[::2]:
            self.assertEqual(space_degrees(squares), poly_of_counts(brute_space(squares)))
        for squares in (((0, 0), (0, 2), (1, 0), (1, 1)), ((0, 0), (0, 1), (0, 3), (1, 0)), ((0, 1), (0, 2), (1, 0), (1, 1))):
            self.assertEqual(space_degrees(squares), poly_of_counts(brute_space(squares)))

    def test_all_lots(self):
        # The degrees are the same from the end, and turned lots have traded degrees.
        for size in (1, 2, 3):
            for squares in combinations(PLACES, size):
                made = space_degrees(squares)
                top = (sum(column for _, column in squares), sum(row for row, _ in squares))
                self.assertEqual(made.inverted().shifted(*top), made)
                self.assertEqual(space_degrees(tuple(sorted((b, a) for a, b in squares))), made.traded())
                self.assertEqual(made.rows[-1], top + (1,))

    def test_ranks(self):
        for size in (1, 2, 3):
            for squares in combinations(PLACES, size):
                made = space_degrees(squares)
                self.assertEqual(made, ranked_degrees(squares), squares)
                # One basis of each space, of the degrees in the middle.
                at = len(made) // 2
                i, j, many = made.rows[at]
                basis = space_basis(squares, (i, j))
                self.assertEqual(len(basis), many)
                self.assertIs(is_space_basis(squares, (i, j), basis), True)
                self.assertIs(is_space_basis(squares, (i, j), basis[1:] + basis[:1]), True)
                self.assertIs(is_space_basis(squares, (i, j), basis[1:]), False)

    def test_shapes(self):
        for shape in SMALL:
            n = sum(shape)
            made = space_degrees(squares_of(shape))
            self.assertEqual(made.at(1, 1), (factorial(n), 1))
            self.assertEqual(made, shape_sum(shape).number_at("h", (1,) * n))
            self.assertEqual(made.rows[0], (0, 0, 1))
            top = (rise(turned_shape(shape)), rise(shape))
            self.assertEqual(made.rows[-1], top + (1,))
            self.assertEqual(space_degrees(squares_of(turned_shape(shape))), made.traded())
        for n in SIZES:
            right = ONE
            for i in range(1, n + 1):
                right = right * Poly(tuple((k, 0, 1) for k in range(i)))
            self.assertEqual(space_degrees(squares_of((n,))), right)

    def test_space_sum(self):
        for shape in SMALL:
            made = space_sum(shape)
            self.assertEqual(made, shape_sum(shape))
            if sum(shape) < 4 or shape == (2, 1, 1):
                self.assertEqual(made, brute_sum(sum(shape), brute_space(squares_of(shape))))
        self.assertEqual(space_sum((2, 1)), HOOK)

    def test_space_sum_errors(self):
        for wrong in NO_SHAPES:
            refuse(self, InvalidShape, None, space_sum, wrong)
        for size in (5, 6):
            for shape in all_shapes(size):
                refuse(self, TooMany, ("limit", 4), space_sum, shape)

    def test_not_true(self):
        self.assertEqual(space_degrees(((0, 0), (0, 2))).at(1, 1), (4, 1))
        # The spaces of (2,) and (1, 1) have the numbers alone in common, but those of (3,) and (2, 1) have more.
        self.assertNotEqual(space_degrees(squares_of((2,))), space_degrees(squares_of((1, 1))))
        self.assertIs(is_space_basis(squares_of((3,)), (1, 0), space_basis(squares_of((2, 1)), (1, 0))), True)
        total = 0
        for degrees in product(range(4), repeat=2):
            forms = [form for shape in all_shapes(3) for form in space_basis(squares_of(shape), degrees)]
            total += len(echelon(forms))
        self.assertLess(total, 16)


class TestHarmonics(unittest.TestCase):
    def test_degrees(self):
        for n in SIZES:
            made = harmonic_degrees(n)
            self.assertEqual(made.at(1, 1), ((n + 1) ** (n - 1), 1))
            self.assertEqual(made.traded(), made)
            self.assertEqual(made, path_sum(n).number_at("h", (1,) * n))
        for n in (1, 2, 3):
            self.assertEqual(harmonic_degrees(n), poly_of_counts(brute_harmonics(n)))

    def test_sum(self):
        for n in SIZES:
            made = harmonic_sum(n)
            self.assertEqual(made, elementary_image(n))
            if n < 4:
                self.assertEqual(made, brute_sum(n, brute_harmonics(n)))
        self.assertEqual(harmonic_sum(2).pairs, (((2,), ONE), ((1, 1), Q + T)))

    def test_number_errors(self):
        for wrong in NO_INTEGERS + (0, 5, -1):
            for call in (harmonic_degrees, harmonic_sum):
                refuse(self, InvalidNumber, ("given", wrong), call, wrong)
            refuse(self, InvalidNumber, ("given", wrong), is_harmonic, wrong, ())
            for call, more in ((harmonic_basis, ((0, 0),)), (harmonic_basis, (None,)), (is_harmonic_basis, (None, ()))):
                refuse(self, InvalidNumber, ("given", wrong), call, wrong, *more)

    def test_is_harmonic(self):
        for n in SIZES:
            self.assertIs(is_harmonic(n, ()), True)
            self.assertIs(is_harmonic(n, (((0,) * (2 * n), -7),)), True)
            self.assertIs(is_harmonic(n, (((1,) + (0,) * (2 * n - 1), 1),)), False)
            for shape in all_shapes(n):
                form = determinant(squares_of(shape))
                self.assertIs(is_harmonic(n, form), True)
                self.assertIs(is_harmonic(n, plain({powers: -10 ** 58 * c for powers, c in form})), True)
        for squares in combinations(PLACES, 2):
            form = determinant(squares)
            self.assertIs(is_harmonic(2, form), is_brute_harmonic(2, form))
        for squares in list(combinations(PLACES, 3))[::9]:
            form = determinant(squares)
            self.assertIs(is_harmonic(3, form), is_brute_harmonic(3, form))
        # Forms with unlike degrees: each part counts.
        self.assertIs(is_harmonic(2, (((0, 0, 0, 1), -1), ((0, 0, 1, 0), 1), ((0, 1, 0, 0), -2), ((1, 0, 0, 0), 2))), True)
        self.assertIs(is_harmonic(2, (((0, 0, 0, 0), 5), ((0, 1, 0, 0), 1), ((1, 0, 0, 0), 1))), False)
        self.assertIs(is_harmonic(3, (((0, 0, 1, 0, 0, 0), 1), ((0, 1, 0, 0, 0, 0), -1))), True)
        self.assertIs(is_harmonic(2, (((20, 20, 20, 20), 1),)), False)
        self.assertIs(is_harmonic(2, LONGEST), False)
        for n, squares in ((3, ((0, 0), (0, 1), (3, 3))), (4, ((0, 0), (1, 1), (2, 2), (3, 3)))):
            self.assertIs(is_harmonic(n, determinant(squares)), False)
        for wrong in NO_FORMS + (LONGEST + (((20,) * 4, 1),), determinant(squares_of((3,))), (((0, 0), 1),)):
            self.assertIs(is_harmonic(2, wrong), False)

    def test_high_sums(self):
        # Sums of derivatives of many letters at once that no lower sum tells to be other than 0.
        form = plain({(1, 1, 0, 0): 1, (2, 0, 0, 0): 1, (0, 2, 0, 0): 1})
        self.assertIs(is_harmonic(2, form), is_brute_harmonic(2, form))
        for powers in product(range(4), repeat=4):
            swapped = (powers[1], powers[0], powers[3], powers[2])
            form = plain({powers: 1, swapped: -1} if powers != swapped else {powers: 1})
            self.assertIs(is_harmonic(2, form), is_brute_harmonic(2, form))


class TestBases(unittest.TestCase):
    def check_basis(self, n, degrees, rows, basis, judge):
        self.assertIsInstance(basis, tuple)
        self.assertEqual(len(basis), len(rows))
        for form in basis:
            self.assertEqual(derived(n, form, 0), brute_derived(form, 0))
            self.assertEqual(degrees_of(form), degrees)
        self.assertEqual(echelon(basis), rows)
        told = tuple(plain({powers: int(c * row_bottom(row)) for powers, c in row.items()}) for row in rows.values())
        for right in (basis, basis[::-1], mixed(basis), told):
            self.assertIs(judge(right), True)
        self.check_wrong(n, basis, judge)

    def check_wrong(self, n, basis, judge):
        one = (((0,) * (2 * n), 1),)
        for wrong in NO_TUPLES + (None, 1, True, list(basis), {}, basis + ((),), basis + (None,), (basis,), LONGEST):
            if wrong != basis:
                self.assertIs(judge(wrong), False)
        self.assertIs(judge(basis + basis[:1]), not basis)
        if basis:
            self.assertIs(judge(basis[1:]), False)
            self.assertIs(judge(basis[:-1] + (basis[0],)), len(basis) == 1)
            self.assertIs(judge(basis[:-1] + ((),)), False)
            self.assertIs(judge(basis[:-1] + (list(basis[-1]),)), False)
            table = dict(basis[-1])
            powers = basis[-1][0][0]
            table[powers] = table[powers] * 10 ** 60
            self.assertIs(judge(basis[:-1] + (plain(table),)), False)
            if basis[0] != one and degrees_of(basis[0]) != (0, 0):
                self.assertIs(judge(basis[:-1] + (one,)), False)

    def test_space_basis(self):
        lots = [squares_of(shape) for shape in SMALL] + list(combinations(PLACES, 2))[::7]
        lots += [((0, 0), (0, 1), (1, 2)), ((0, 1), (1, 0), (2, 2)), ((0, 0), (0, 2), (1, 0), (1, 1))]
        for squares in lots:
            n = len(squares)
            found = brute_space(squares)
            for degrees in list(found) + [(0, 0), (7, 0), (0, 7), (12, 12)]:
                basis = space_basis(squares, degrees)
                self.assertEqual(len(basis), dict(((i, j), c) for i, j, c in space_degrees(squares).rows).get(degrees, 0))
                self.check_basis(n, degrees, found.get(degrees, {}), basis,
                                 lambda value: is_space_basis(squares, degrees, value))

    def test_harmonic_basis(self):
        for n in (1, 2, 3):
            found = brute_harmonics(n)
            for degrees in list(found) + [(4, 0), (0, 4), (2, 2), (12, 12)]:
                basis = harmonic_basis(n, degrees)
                self.check_basis(n, degrees, found.get(degrees, {}), basis,
                                 lambda value: is_harmonic_basis(n, degrees, value))
        for degrees in ((0, 0), (1, 0), (0, 6), (2, 1), (1, 3), (2, 2), (4, 0), (4, 1), (7, 0)):
            basis = harmonic_basis(4, degrees)
            self.assertEqual(len(basis), dict(((i, j), c) for i, j, c in harmonic_degrees(4).rows).get(degrees, 0))
            self.assertEqual(len(echelon(basis)), len(basis))
            for form in basis:
                self.assertIs(is_harmonic(4, form), True)
                self.assertIs(is_brute_harmonic(4, form), True)
            self.assertIs(is_harmonic_basis(4, degrees, mixed(basis)), True)
            self.check_wrong(4, basis, lambda value: is_harmonic_basis(4, degrees, value))

    def test_members(self):
        # Right in number and degrees, and independent, but not of the space.
        line = squares_of((2,))
        self.assertIs(is_space_basis(line, (1, 0), ((((0, 1, 0, 0), 1),),)), False)
        self.assertIs(is_space_basis(line, (1, 0), ((((0, 1, 0, 0), 1), ((1, 0, 0, 0), 1)),)), False)
        self.assertIs(is_space_basis(line, (1, 0), ((((0, 1, 0, 0), 4), ((1, 0, 0, 0), -4)),)), True)
        self.assertIs(is_harmonic_basis(2, (1, 0), ((((0, 1, 0, 0), 1),),)), False)
        self.assertIs(is_harmonic_basis(2, (1, 0), ((((0, 1, 0, 0), -9), ((1, 0, 0, 0), 9)),)), True)
        self.assertIs(is_harmonic_basis(2, (0, 1), ((((0, 1, 0, 0), -9), ((1, 0, 0, 0), 9)),)), False)
        self.assertIs(is_space_basis(line, (0, 1), ()), True)
        prime = 2 ** 61 - 1
        both = space_basis(squares_of((3,)), (1, 0))
        self.assertEqual(len(both), 2)
        longer = tuple((powers, c * prime) for powers, c in both[0])
        self.assertIs(is_space_basis(squares_of((3,)), (1, 0), (longer, both[1])), True)
        self.assertIs(is_space_basis(squares_of((3,)), (1, 0), (longer, both[0])), False)

    def test_great_lots(self):
        squares = ((0, 3), (1, 2), (2, 1), (3, 0))
        basis = space_basis(squares, (3, 3))
        self.assertEqual(len(basis), dict(((i, j), c) for i, j, c in space_degrees(squares).rows)[3, 3])
        self.assertIs(is_space_basis(squares, (3, 3), basis), True)
        self.assertIs(is_space_basis(squares, (3, 3), mixed(basis)), True)
        self.assertIs(is_space_basis(squares, (3, 3), basis[:-1] + (basis[0],)), False)
        edge = ((0, 3), (1, 3), (2, 3), (3, 3))
        self.assertEqual(space_basis(edge, (12, 6)), (determinant(edge),))
        self.assertEqual(space_degrees(edge).rows[-1], (12, 6, 1))

    def test_degrees_errors(self):
        for wrong in NO_DEGREES:
            refuse(self, InvalidOperation, None, space_basis, FLAT, wrong)
            refuse(self, InvalidOperation, None, is_space_basis, FLAT, wrong, ())
            refuse(self, InvalidOperation, None, harmonic_basis, 2, wrong)
            refuse(self, InvalidOperation, None, is_harmonic_basis, 2, wrong, ())


def row_bottom(row):
    made = 1
    for c in row.values():
        made = made * c.denominator
    return made


if __name__ == "__main__":
    unittest.main()
