"""An operator with told values, and a square more or less: [10.1] to [10.8]."""

import unittest
from fractions import Fraction
from math import factorial

from armlegs.base.polys import Poly
from armlegs.base.shapes import (
    higher_shapes, lower_shapes, norm, place_sum, shapes_of, square_between, squares_of, value_of,
)
from armlegs.base.traces import z_of
from armlegs.deeds.values import lowering, moved, raising, shape_number, star
from armlegs.errors import InvalidNumber, InvalidOperation, InvalidShape, InvalidSum, TooMany
from armlegs.fill.fillings import shape_sum
from armlegs.sums.letters import added_letters, taken_out
from armlegs.sums.sums import Sum
from tests.helpers import HOOK, NO_INTEGERS, ONE, Q, T, ZERO, all_shapes, refuse, sample_sums, value
from tests.test_shapes import EVERY, NO_SHAPES, SIZES, arm_of, leg_of
from tests.test_triangles import EMPTY, NO_SUMS

BOTH = (ONE - Q) * (ONE - T)
FIRST = Sum.of_kind("e", (1,))
PLACES = ((2, 3), (3, -2), (5, 7))


def unit(shape):
    return Sum(sum(shape), ((shape, ONE),))


def brute_moved(f, step):
    parts = added_letters(f, BOTH)
    made = Sum(f.size + step, ())
    for j in range(f.size + 1):
        part = parts[j] if j < f.size else Sum(0, (((), parts[j]),) if parts[j] != ZERO else ())
        i = j + step
        if i >= 0:
            column = unit((1,) * i)
            made = made + (column * part).times(Poly.number((-1) ** i))
    return made


def brute_star(one, other):
    """The star pairing, by the numbers of the kind "p"."""
    whole = factorial(one.size)
    made = ZERO
    for cycles in all_shapes(one.size):
        number = one.number_at("p", cycles) * other.number_at("p", cycles)
        for k in cycles:
            number = number * (ONE - Poly.letter(k, 0)) * (ONE - Poly.letter(0, k))
        share = whole // (z_of(cycles) if cycles else 1)
        made = made + number * Poly.number((-1) ** (one.size - len(cycles)) * share)
    return made.over(Poly.number(whole))


def brute_factors(shape, gone):
    made = ONE
    for row, column in squares_of(shape):
        a, b = arm_of(shape, (row, column)), leg_of(shape, (row, column))
        if (row, column) == gone:
            continue
        if row == gone[0]:
            made = made * (Poly.letter(0, b) - Poly.letter(a + 1, 0))
        elif column == gone[1]:
            made = made * (Poly.letter(a, 0) - Poly.letter(0, b + 1))
    return made


def quotient(pair, q, t):
    return value(pair[0], q, t) / value(pair[1], q, t)


def values_of(some, q, t):
    """The values of the tableau numbers, a dict."""
    return {shape: value(some.number_at("s", shape), q, t) for shape in all_shapes(some.size)}


def added_up(parts, size):
    """The sum of the pairs (factor, dict of values)."""
    return {shape: sum((factor * told[shape] for factor, told in parts), Fraction(0)) for shape in all_shapes(size)}


class TestMoved(unittest.TestCase):
    def test_by_parts(self):
        for size in range(7):
            for f in sample_sums(size):
                for step in (-1, 0, 1):
                    if 0 <= size + step <= 6:
                        made = moved(f, step)
                        self.assertEqual(made, brute_moved(f, step))
                        self.assertEqual(made.size, size + step)

    def test_values(self):
        for shape in EVERY:
            made = shape_sum(shape)
            self.assertEqual(moved(made, 0), made.times(value_of(shape)))

    def test_steps(self):
        # The steps 1 and -1 are told by the step 0 and by e_1, times it and taken out.
        for size in range(6):
            for f in sample_sums(size)[1:3]:
                both = moved(FIRST * f, 0) - FIRST * moved(f, 0)
                self.assertEqual(both, moved(f, 1).times(BOTH))
        for size in range(2, 7):
            for f in sample_sums(size)[1:3]:
                both = taken_out(moved(f, 0), "e", (1,)) - moved(taken_out(f, "e", (1,)), 0)
                self.assertEqual(both, -moved(f, -1))

    def test_known(self):
        self.assertEqual(moved(EMPTY, 0), EMPTY)
        self.assertEqual(moved(EMPTY, 1), -FIRST)
        self.assertEqual(moved(FIRST, -1), EMPTY.times(BOTH))
        self.assertEqual(moved(Sum(0, ()), 1), Sum(1, ()))
        self.assertEqual(moved(Sum(6, ()), -1), Sum(5, ()))

    def test_errors(self):
        for wrong in NO_SUMS:
            refuse(self, InvalidSum, None, moved, wrong, 0)
            refuse(self, InvalidSum, None, moved, wrong, None)
        for wrong in NO_INTEGERS + (-2, 2, 6):
            for f in (HOOK, Sum(6, ()), EMPTY):
                refuse(self, InvalidNumber, ("given", wrong), moved, f, wrong)
        refuse(self, InvalidOperation, None, moved, EMPTY, -1)
        refuse(self, InvalidOperation, None, moved, Sum(0, ()), -1)
        refuse(self, TooMany, ("limit", 6), moved, shape_sum((3, 2, 1)), 1)
        refuse(self, TooMany, ("limit", 6), moved, Sum(6, ()), 1)

    def test_not_true(self):
        self.assertNotEqual(moved(moved(HOOK, 1), -1), moved(moved(HOOK, -1), 1))
        self.assertEqual(value_of((2,)).at(2, 2), value_of((1, 1)).at(2, 2))


class TestSquares(unittest.TestCase):
    def test_products(self):
        for shape in EVERY:
            for lower in lower_shapes(shape):
                gone = square_between(shape, lower)
                top, bottom = brute_factors(shape, gone), brute_factors(lower, gone)
                self.assertEqual(lowering(shape, lower), (top, bottom))
                self.assertEqual(raising(lower, shape), (BOTH * top * norm(lower), bottom * norm(shape)))

    def test_known(self):
        self.assertEqual(lowering((2,), (1,)), (ONE - Q * Q, ONE - Q))
        self.assertEqual(lowering((1, 1), (1,)), (ONE - T * T, ONE - T))
        self.assertEqual(lowering((2, 1), (2,)), (Q - T * T, Q - T))
        self.assertEqual(lowering((2, 1), (1, 1)), (T - Q * Q, T - Q))
        self.assertEqual(lowering((2, 2), (2, 1)), (
            (ONE - Q * Q) * (ONE - T * T), (ONE - Q) * (ONE - T)))

    def test_lowering_sums(self):
        for shape in EVERY:
            if sum(shape) == 1:
                continue
            below = lower_shapes(shape)
            made = taken_out(shape_sum(shape), "e", (1,))
            for q, t in PLACES:
                told = [(quotient(lowering(shape, lower), q, t), values_of(shape_sum(lower), q, t)) for lower in below]
                self.assertEqual(added_up(told, sum(shape) - 1), values_of(made, q, t))
                self.assertEqual(sum(share for share, _ in told), value(place_sum(shape), q, t))

    def test_raising_sums(self):
        for lower in EVERY:
            if sum(lower) == 6:
                continue
            above = higher_shapes(lower)
            made = FIRST * shape_sum(lower)
            for q, t in PLACES:
                told = [(quotient(raising(lower, shape), q, t), values_of(shape_sum(shape), q, t)) for shape in above]
                self.assertEqual(added_up(told, sum(lower) + 1), values_of(made, q, t))
                self.assertEqual(sum(share for share, _ in told), 1)

    def test_exact_sums(self):
        # The same without values: all parts over the product of all bottoms.
        for shape in EVERY:
            if 2 <= sum(shape) <= 4:
                told = [(lower, lowering(shape, lower)) for lower in lower_shapes(shape)]
                made = Sum(sum(shape) - 1, ())
                bottom = ONE
                for lower, pair in told:
                    made = made.times(pair[1]) + shape_sum(lower).times(pair[0] * bottom)
                    bottom = bottom * pair[1]
                self.assertEqual(made, taken_out(shape_sum(shape), "e", (1,)).times(bottom))

    def test_errors(self):
        for wrong in NO_SHAPES:
            refuse(self, InvalidShape, None, lowering, wrong, (1,))
            refuse(self, InvalidShape, None, lowering, (2,), wrong)
            refuse(self, InvalidShape, None, raising, wrong, (2,))
            refuse(self, InvalidShape, None, raising, (1,), wrong)
            refuse(self, InvalidShape, None, raising, wrong, wrong)
        for shape in EVERY:
            for lower in EVERY:
                if lower not in lower_shapes(shape):
                    refuse(self, InvalidOperation, None, lowering, shape, lower)
                    refuse(self, InvalidOperation, None, raising, lower, shape)

    def test_not_true(self):
        self.assertRaises(ArithmeticError, lambda: lowering((2, 1), (2,))[0].over(lowering((2, 1), (2,))[1]))


class TestStar(unittest.TestCase):
    def test_by_cycles(self):
        for size in range(7):
            told = sample_sums(size)
            for one in told:
                for other in told[:3]:
                    self.assertEqual(star(one, other), brute_star(one, other))
                    self.assertEqual(star(one, other), star(other, one))

    def test_shape_sums(self):
        for size in SIZES:
            told = [(shape, shape_sum(shape)) for shape in shapes_of(size)]
            for one, f in told:
                for other, g in told:
                    self.assertEqual(star(f, g), norm(one) if one == other else ZERO)

    def test_moved(self):
        for size in range(5):
            told = sample_sums(size)
            for f in told:
                for g in told[1:3]:
                    self.assertEqual(star(moved(f, 0), g), star(f, moved(g, 0)))

    def test_first(self):
        for size in range(1, 5):
            for f in sample_sums(size):
                for g in sample_sums(size + 1)[1:3]:
                    self.assertEqual(star(FIRST * f, g), BOTH * star(f, taken_out(g, "e", (1,))))

    def test_known(self):
        self.assertEqual(star(EMPTY, EMPTY.times(Q)), Q)
        self.assertEqual(star(FIRST, FIRST), BOTH)
        self.assertEqual(star(Sum(3, ()), HOOK), ZERO)
        self.assertIs(star(FIRST, FIRST).is_positive(), False)

    def test_errors(self):
        for wrong in NO_SUMS:
            refuse(self, InvalidSum, None, star, wrong, HOOK)
            refuse(self, InvalidSum, None, star, HOOK, wrong)
            refuse(self, InvalidSum, None, star, wrong, None)
        for f in (EMPTY, FIRST, shape_sum((2, 2)), Sum(6, ())):
            refuse(self, InvalidOperation, None, star, HOOK, f)
            refuse(self, InvalidOperation, None, star, f, HOOK)


class TestShapeNumber(unittest.TestCase):
    def test_pairs(self):
        for shape in EVERY:
            for f in sample_sums(sum(shape))[1:3]:
                right = (brute_star(f, shape_sum(shape)), norm(shape))
                self.assertEqual(shape_number(f, shape), right)
            self.assertEqual(shape_number(shape_sum(shape), shape), (norm(shape), norm(shape)))
        self.assertEqual(shape_number(HOOK, (3,))[0], ZERO)
        self.assertEqual(shape_number(FIRST, (1,)), (BOTH, BOTH))

    def test_numbers_tell_the_sum(self):
        for size in SIZES:
            told = [(shape, shape_sum(shape)) for shape in shapes_of(size)]
            for f in sample_sums(size):
                for q, t in PLACES[:2]:
                    parts = [(quotient(shape_number(f, shape), q, t), values_of(g, q, t)) for shape, g in told]
                    self.assertEqual(added_up(parts, size), values_of(f, q, t))

    def test_errors(self):
        for wrong in NO_SUMS:
            refuse(self, InvalidSum, None, shape_number, wrong, (2, 1))
            refuse(self, InvalidSum, None, shape_number, wrong, None)
        for wrong in NO_SHAPES:
            refuse(self, InvalidShape, None, shape_number, HOOK, wrong)
        for shape in EVERY:
            if sum(shape) != 3:
                refuse(self, InvalidOperation, None, shape_number, HOOK, shape)
            refuse(self, InvalidOperation, None, shape_number, EMPTY, shape)


if __name__ == "__main__":
    unittest.main()
