"""Shapes: [2.1] to [2.7]."""

import unittest
from itertools import product

from armlegs.base import shapes
from armlegs.base.polys import Poly
from armlegs.base.shapes import (
    arm, compositions_of, higher_shapes, hook, is_at_or_above, is_shape, leg, lift, lower_shapes, norm, place_sum,
    rise, shapes_of, square_between, squares_of, turned_shape, value_of,
)
from armlegs.errors import InvalidNumber, InvalidOperation, InvalidShape, TooMany
from tests.helpers import NO_INTEGERS, NO_TUPLES, ONE, Q, T, ZERO, all_shapes, refuse, squares, value

SIZES = range(1, 7)
EVERY = [shape for size in SIZES for shape in all_shapes(size)]
NO_SHAPES = NO_TUPLES + ((), (0,), (7,), (1, 2), (3, 1, 2), (2, 1, 0), (4, 3), (1,) * 7, (5, 1, 1), (2, 2, 2, 1))
NO_SQUARES = (
    None, True, 0, 1, (), (0,), (0, 0, 0), [0, 0], "00", {0: 0}, (0, True), (True, 0), (False, False), (0, None),
    (0, "0"), (-1, 0), (0, -1), (10 ** 60, 0), (0, 10 ** 60), ((0, 0),), ([0], 0), (0, (0,)), ONE,
)


def arm_of(shape, square):
    row, column = square
    return len([other for other in squares(shape) if other[0] == row and other[1] > column])


def leg_of(shape, square):
    row, column = square
    return len([other for other in squares(shape) if other[1] == column and other[0] > row])


class TestShapes(unittest.TestCase):
    def test_constant(self):
        self.assertEqual(shapes.MAX_SIZE, 6)

    def test_shapes_of(self):
        for size in SIZES:
            self.assertEqual(shapes_of(size), tuple(all_shapes(size)))
        self.assertEqual([len(shapes_of(size)) for size in SIZES], [1, 2, 3, 5, 7, 11])
        self.assertEqual(shapes_of(5)[:4], ((5,), (4, 1), (3, 2), (3, 1, 1)))

    def test_compositions_of(self):
        for size in SIZES:
            found = [parts for count in SIZES for parts in product(SIZES, repeat=count) if sum(parts) == size]
            self.assertEqual(compositions_of(size), tuple(sorted(found, reverse=True)))
            self.assertEqual(len(compositions_of(size)), 2 ** (size - 1))

    def test_sizes(self):
        for call in (shapes_of, compositions_of):
            self.assertEqual(call(1), ((1,),))
            self.assertEqual((call(6)[0], call(6)[-1]), ((6,), (1,) * 6))
            for wrong in NO_INTEGERS + (0, 7, -1):
                refuse(self, InvalidNumber, ("given", wrong), call, wrong)

    def test_is_shape(self):
        for shape in EVERY:
            self.assertIs(is_shape(shape), True)
            self.assertIs(is_shape(list(shape)), False)
        for wrong in NO_SHAPES:
            self.assertIs(is_shape(wrong), False, wrong)

    def test_turned_shape(self):
        for shape in EVERY:
            turned = turned_shape(shape)
            self.assertEqual(squares(turned), {(column, row) for row, column in squares(shape)})
            self.assertEqual(turned_shape(turned), shape)
            self.assertIs(is_shape(turned), True)

    def test_squares_of(self):
        for shape in EVERY:
            self.assertEqual(squares_of(shape), tuple(sorted(squares(shape))))

    def test_arms_legs_hooks(self):
        for shape in EVERY:
            for square in squares_of(shape):
                self.assertEqual(arm(shape, square), arm_of(shape, square))
                self.assertEqual(leg(shape, square), leg_of(shape, square))
                self.assertEqual(hook(shape, square), arm_of(shape, square) + leg_of(shape, square) + 1)
                row, column = square
                self.assertEqual(arm(turned_shape(shape), (column, row)), leg(shape, square))
                self.assertEqual(leg(turned_shape(shape), (column, row)), arm(shape, square))

    def test_rise(self):
        for shape in EVERY:
            self.assertEqual(rise(shape), sum(row for row, _ in squares(shape)))
            self.assertEqual(rise(shape), sum(leg(shape, square) for square in squares(shape)))

    def test_lift_and_places(self):
        for shape in EVERY:
            made = ONE
            total = ZERO
            for row, column in squares(shape):
                made = made * Poly.letter(column, row)
                total = total + Poly.letter(column, row)
            self.assertEqual(lift(shape), made)
            self.assertEqual(lift(shape), Poly.letter(rise(turned_shape(shape)), rise(shape)))
            self.assertEqual(place_sum(shape), total)
            self.assertEqual(value_of(shape), ONE - (ONE - Q) * (ONE - T) * total)
        self.assertEqual(lift((3, 1)).rows, ((3, 1, 1),))
        self.assertEqual(place_sum((3, 1)).rows, ((0, 0, 1), (0, 1, 1), (1, 0, 1), (2, 0, 1)))
        self.assertEqual(value_of((1,)), Q + T - Q * T)
        for call in (place_sum, value_of):
            told = [call(shape).rows for shape in EVERY]
            self.assertEqual(len(set(told)), len(EVERY))

    def test_norm(self):
        for shape in EVERY:
            made = ONE
            for square in squares(shape):
                a = arm_of(shape, square)
                b = leg_of(shape, square)
                made = made * (Poly.letter(a, 0) - Poly.letter(0, b + 1)) * (Poly.letter(0, b) - Poly.letter(a + 1, 0))
            self.assertEqual(norm(shape), made)
            for q, t in ((2, 3), (-3, 5)):
                right = 1
                for square in squares(shape):
                    a = arm_of(shape, square)
                    b = leg_of(shape, square)
                    right = right * (q ** a - t ** (b + 1)) * (t ** b - q ** (a + 1))
                self.assertEqual(value(norm(shape), q, t), right)
        self.assertEqual(norm((1,)), (ONE - T) * (ONE - Q))
        self.assertEqual(norm((2,)), (Q - T) * (ONE - Q * Q) * (ONE - T) * (ONE - Q))

    def test_wrong_shapes(self):
        for call in (turned_shape, squares_of, rise, lift, place_sum, value_of, norm, lower_shapes, higher_shapes):
            for wrong in NO_SHAPES:
                refuse(self, InvalidShape, None, call, wrong)

    def test_wrong_squares(self):
        for call in (arm, leg, hook):
            for wrong in NO_SHAPES:
                refuse(self, InvalidShape, None, call, wrong, (0, 0))
                refuse(self, InvalidShape, None, call, wrong, None)
            for wrong in NO_SQUARES:
                refuse(self, InvalidOperation, None, call, (3, 3), wrong)
            for shape in EVERY:
                for square in product(range(-1, 7), repeat=2):
                    if square not in squares(shape):
                        refuse(self, InvalidOperation, None, call, shape, square)


class TestSequences(unittest.TestCase):
    def test_is_at_or_above(self):
        for size in SIZES:
            for one in all_shapes(size):
                for other in all_shapes(size):
                    right = all(sum(one[:k]) >= sum(other[:k]) for k in SIZES)
                    self.assertIs(is_at_or_above(one, other), right)
                    self.assertIs(is_at_or_above(turned_shape(other), turned_shape(one)), right)
        self.assertEqual([is_at_or_above((3, 3), (4, 1, 1)), is_at_or_above((4, 1, 1), (3, 3))], [False, False])
        self.assertEqual([is_at_or_above((2, 2), (2, 2)), is_at_or_above((2, 1, 1), (2, 2))], [True, False])

    def test_is_at_or_above_errors(self):
        for wrong in NO_SHAPES:
            refuse(self, InvalidShape, None, is_at_or_above, wrong, (1,))
            refuse(self, InvalidShape, None, is_at_or_above, (1,), wrong)
            refuse(self, InvalidShape, None, is_at_or_above, wrong, wrong)
        for one in EVERY:
            for other in EVERY:
                if sum(one) != sum(other):
                    refuse(self, InvalidOperation, None, is_at_or_above, one, other)

    def test_lower_and_higher(self):
        for shape in EVERY:
            size = sum(shape)
            lower = [other for other in all_shapes(size - 1) if other and squares(other) < squares(shape)]
            self.assertEqual(lower_shapes(shape), tuple(lower))
            if size < 6:
                higher = [other for other in all_shapes(size + 1) if squares(other) > squares(shape)]
                self.assertEqual(higher_shapes(shape), tuple(higher))
                self.assertEqual(len(higher), max(len(lower), 1) + 1)
                for other in higher:
                    self.assertIn(shape, lower_shapes(other))
            else:
                refuse(self, TooMany, ("limit", 6), higher_shapes, shape)
        self.assertEqual(lower_shapes((1,)), ())
        self.assertEqual(higher_shapes((2, 1)), ((3, 1), (2, 2), (2, 1, 1)))
        self.assertEqual(lower_shapes((3, 2, 1)), ((3, 2), (3, 1, 1), (2, 2, 1)))

    def test_square_between(self):
        for shape in EVERY:
            for lower in EVERY:
                if lower in lower_shapes(shape):
                    square = square_between(shape, lower)
                    self.assertEqual({square}, squares(shape) - squares(lower))
                    self.assertIsInstance(square, tuple)
                else:
                    refuse(self, InvalidOperation, None, square_between, shape, lower)
        self.assertEqual(square_between((3, 1), (2, 1)), (0, 2))
        for wrong in NO_SHAPES:
            refuse(self, InvalidShape, None, square_between, wrong, (1,))
            refuse(self, InvalidShape, None, square_between, (2,), wrong)
            refuse(self, InvalidShape, None, square_between, (1,), wrong)

    def test_not_true(self):
        self.assertEqual((rise((4, 1, 1)), rise((3, 3))), (3, 3))
        self.assertEqual((is_at_or_above((2, 2, 2), (3, 1, 1, 1)), is_at_or_above((3, 1, 1, 1), (2, 2, 2))),
                         (False, False))
        for x in (2, 3, -5):
            self.assertEqual(value_of((2,)).at(x, x), value_of((1, 1)).at(x, x))
        self.assertNotEqual(value_of((2,)), value_of((1, 1)))


if __name__ == "__main__":
    unittest.main()
