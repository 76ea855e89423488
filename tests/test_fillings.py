"""Fillings and their two counts: [7.1] to [7.6]."""

import unittest
from itertools import combinations, permutations, product
from math import factorial

from armlegs.base.polys import Poly
from armlegs.base.shapes import lift, turned_shape
from armlegs.base.traces import standard_count
from armlegs.errors import InvalidFilling, InvalidOperation, InvalidShape
from armlegs.fill.fillings import (
    counts_of, filling_sum, is_filling, reading, shape_sum, standard_fillings,
)
from armlegs.sums.sums import Sum, standard_number
from armlegs.words.words import composition_of, fundamental_paper, pairs_of_words
from tests.helpers import HOOK, NO_TUPLES, ONE, Q, T, ZERO, all_contents, all_shapes, refuse, squares
from tests.test_shapes import EVERY, NO_SHAPES, SIZES, arm_of, leg_of
from tests.test_traces import NO_CONTENTS

SMALL = [shape for size in range(1, 5) for shape in all_shapes(size)]
SQUARE = (
    ((4,), ONE), ((3, 1), Q + T + Q * T), ((2, 2), Q * Q + T * T), ((2, 1, 1), Q * T + Q * Q * T + Q * T * T),
    ((1, 1, 1, 1), Q * Q * T * T),
)
# No one of these is a filling of the shape (2,).
NO_FILLINGS = NO_TUPLES + (
    (), (1,), (1, 1, 1), (0, 1), (1, 0), (61, 1), (1, 61), (-1, 1), [1, 1], (True, 1), (1, True), (1, None), ("1", 1),
    (1, (1,)), (10 ** 60, 1), (1, 10 ** 59), (1, ONE), (HOOK, 1), {1: 1, 2: 1}, "11", ((1, 1),), ([1, 1],),
)


def read(shape):
    return sorted(squares(shape), key=lambda square: (-square[0], square[1]))


def near_count(shape, filling):
    """How many pairs of near squares have the greater integer first."""
    told = list(zip(read(shape), filling))
    return len([1 for (one, a), (other, b) in combinations(told, 2) if a > b and (
        one[0] == other[0] or (one[0] - 1 == other[0] and one[1] > other[1]))])


def brute_counts(shape, filling):
    told = dict(zip(read(shape), filling))
    falls = [(r, c) for r, c in told if r > 0 and told[(r, c)] > told[(r - 1, c)]]
    inv = near_count(shape, filling) - sum(arm_of(shape, square) for square in falls)
    return (inv, sum(leg_of(shape, square) + 1 for square in falls))


def brute_sum(shape, content):
    numbers = [k + 1 for k, many in enumerate(content) for _ in range(many)]
    counted = {}
    for filling in set(permutations(numbers)):
        powers = brute_counts(shape, filling)
        counted[powers] = counted.get(powers, 0) + 1
    return Poly(tuple((i, j, counted[(i, j)]) for i, j in sorted(counted)))


def products_of_places(shape, many):
    """The sum of all products of so many unlike places other than that of (0, 0)."""
    made = ZERO
    for lot in combinations(sorted(squares(shape) - {(0, 0)}), many):
        made = made + Poly.letter(sum(c for _, c in lot), sum(r for r, _ in lot))
    return made


class TestFillings(unittest.TestCase):
    def test_reading(self):
        for shape in EVERY:
            self.assertEqual(reading(shape), tuple(read(shape)))
        self.assertEqual(reading((1,)), ((0, 0),))
        self.assertEqual(reading((3, 2, 1)), ((2, 0), (1, 0), (1, 1), (0, 0), (0, 1), (0, 2)))
        for wrong in NO_SHAPES:
            refuse(self, InvalidShape, None, reading, wrong)

    def test_is_filling(self):
        for shape in EVERY:
            size = sum(shape)
            self.assertIs(is_filling(shape, (1,) * size), True)
            self.assertIs(is_filling(shape, (60,) * size), True)
            self.assertIs(is_filling(shape, tuple(range(size))), False)
            self.assertIs(is_filling(shape, (61,) + (1,) * (size - 1)), False)
            self.assertIs(is_filling(shape, (1,) * (size - 1) + (61,)), False)
            self.assertIs(is_filling(shape, (1,) * (size + 1)), False)
            self.assertIs(is_filling(shape, (1,) * (size - 1)), False)
        self.assertIs(is_filling((2, 1), (5, 60, 1)), True)
        for wrong in NO_FILLINGS:
            self.assertIs(is_filling((2,), wrong), False, wrong)
        for wrong in NO_SHAPES:
            refuse(self, InvalidShape, None, is_filling, wrong, (1, 1))
            refuse(self, InvalidShape, None, is_filling, wrong, None)

    def test_counts(self):
        for shape in SMALL:
            for filling in product((1, 2, 3, 60), repeat=sum(shape)):
                made = counts_of(shape, filling)
                self.assertEqual(made, brute_counts(shape, filling), (shape, filling))
                self.assertGreaterEqual(made[0], 0)
        for shape in all_shapes(5) + all_shapes(6):
            for filling in list(permutations(range(1, sum(shape) + 1)))[::7]:
                made = counts_of(shape, filling)
                self.assertEqual(made, brute_counts(shape, filling))
                self.assertGreaterEqual(made[0], 0)

    def test_known_counts(self):
        self.assertEqual(counts_of((1,), (60,)), (0, 0))
        self.assertEqual(counts_of((3,), (3, 2, 1)), (3, 0))
        self.assertEqual(counts_of((1, 1, 1), (3, 2, 1)), (0, 3))
        self.assertEqual(counts_of((1, 1, 1), (2, 3, 1)), (0, 2))
        self.assertEqual(counts_of((2, 2), (1, 2, 1, 1)), (1, 1))
        self.assertEqual(counts_of((2, 1), (1, 1, 1)), (0, 0))

    def test_counts_errors(self):
        for wrong in NO_SHAPES:
            refuse(self, InvalidShape, None, counts_of, wrong, (1, 1))
            refuse(self, InvalidShape, None, counts_of, wrong, None)
        for wrong in NO_FILLINGS:
            refuse(self, InvalidFilling, None, counts_of, (2,), wrong)
        refuse(self, InvalidFilling, None, counts_of, (2, 1), (1, 2))
        refuse(self, InvalidFilling, None, counts_of, (2, 1), (1, 2, 3, 4))


class TestFillingSums(unittest.TestCase):
    def test_by_fillings(self):
        for shape in SMALL:
            for count in range(1, 5):
                for content in all_contents(sum(shape), count):
                    right = brute_sum(shape, content)
                    self.assertEqual(filling_sum(shape, content), right, (shape, content))
                    self.assertEqual(filling_sum(shape, tuple(sorted(content))), right)
        for shape in all_shapes(5) + all_shapes(6):
            size = sum(shape)
            for content in ((size,), (1, size - 1), (2, 0, size - 2), (0, 0, 3, 0, size - 3, 0), (1, 2, 1, size - 4)):
                right = brute_sum(shape, content)
                self.assertEqual(filling_sum(shape, content), right)
                self.assertEqual(filling_sum(shape, tuple(sorted(content, reverse=True))), right)

    def test_all_fillings(self):
        for size in SIZES:
            for shape in all_shapes(size):
                made = filling_sum(shape, (1,) * size)
                self.assertEqual(made.at(1, 1), (factorial(size), 1))
                self.assertEqual(made, standard_number(shape_sum(shape)))

    def test_errors(self):
        for wrong in NO_SHAPES:
            refuse(self, InvalidShape, None, filling_sum, wrong, (2,))
            refuse(self, InvalidShape, None, filling_sum, wrong, None)
        for wrong in NO_CONTENTS:
            refuse(self, InvalidOperation, None, filling_sum, (2,), wrong)
        self.assertEqual(filling_sum((2,), (0, 0, 0, 0, 0, 2)), ONE)
        refuse(self, InvalidOperation, None, filling_sum, (2,), (2, 0, 0, 0, 0, 0, 0))
        refuse(self, InvalidOperation, None, filling_sum, (2, 1), (1, 1))
        refuse(self, InvalidOperation, None, filling_sum, (2, 1), (1, 1, 2))
        for wrong in ((True, 1), (1, True), (2, False), [1, 1]):
            refuse(self, InvalidOperation, None, filling_sum, (2,), wrong)


class TestShapeSums(unittest.TestCase):
    def test_by_contents(self):
        for shape in EVERY:
            made = shape_sum(shape)
            self.assertIsInstance(made, Sum)
            self.assertEqual(made.size, sum(shape))
            if sum(shape) < 5:
                self.assertEqual(made.numbers("h"), tuple((c, brute_sum(shape, c)) for c in all_shapes(sum(shape))))
            self.assertEqual(made.numbers("h"), tuple((c, filling_sum(shape, c)) for c in all_shapes(sum(shape))))

    def test_by_standard_fillings(self):
        for size in range(1, 6):
            for shape in all_shapes(size):
                parts = {}
                for filling in standard_fillings(shape):
                    at = composition_of(filling)
                    parts[at] = parts.get(at, ZERO) + Poly.letter(*brute_counts(shape, filling))
                paper = fundamental_paper(size, tuple((at, parts[at]) for at in sorted(parts)))
                self.assertEqual(paper, ("symmetric", shape_sum(shape)))
        told = [(filling, Poly.letter(*counts_of((3, 2, 1), filling))) for filling in standard_fillings((3, 2, 1))]
        paper = fundamental_paper(6, pairs_of_words(6, tuple(told)))
        self.assertEqual(paper, ("symmetric", shape_sum((3, 2, 1))))

    def test_known(self):
        self.assertEqual(shape_sum((1,)), Sum.of_kind("s", (1,)))
        self.assertEqual(shape_sum((2,)).pairs, (((2,), ONE), ((1, 1), Q)))
        self.assertEqual(shape_sum((1, 1)).pairs, (((2,), ONE), ((1, 1), T)))
        self.assertEqual(shape_sum((2, 1)), HOOK)
        self.assertEqual(shape_sum((2, 2)).pairs, SQUARE)
        self.assertEqual(shape_sum((3,)).pairs, (((3,), ONE), ((2, 1), Q + Q * Q), ((1, 1, 1), Q * Q * Q)))

    def test_turned(self):
        for shape in EVERY:
            self.assertEqual(shape_sum(turned_shape(shape)).with_traded(), shape_sum(shape))

    def test_numbers(self):
        for shape in EVERY:
            size = sum(shape)
            made = shape_sum(shape)
            self.assertEqual(made.number_at("s", (size,)), ONE)
            for other in all_shapes(size):
                number = made.number_at("s", other)
                turned = made.number_at("s", turned_shape(other))
                self.assertEqual(number, lift(shape) * turned.inverted())
                self.assertEqual(number.at(1, 1), (standard_count(other), 1))
                self.assertTrue(number.is_positive())
            for many in range(size):
                hooked = (size - many,) + (1,) * many
                self.assertEqual(made.number_at("s", hooked), products_of_places(shape, many))

    def test_errors(self):
        for wrong in NO_SHAPES:
            refuse(self, InvalidShape, None, shape_sum, wrong)

    def test_standard_fillings(self):
        for shape in EVERY:
            made = list(standard_fillings(shape))
            self.assertEqual(made, list(permutations(range(1, sum(shape) + 1))))
            self.assertTrue(all(is_filling(shape, filling) for filling in made))
        made = standard_fillings((1,))
        self.assertEqual(next(made), (1,))
        self.assertRaises(StopIteration, next, made)
        for wrong in NO_SHAPES:
            made = standard_fillings(wrong)
            refuse(self, InvalidShape, None, next, made)

    def test_not_true(self):
        counts = [counts_of((2,), filling) for filling in standard_fillings((2,))]
        self.assertNotEqual(sorted(inv for inv, _ in counts), sorted(maj for _, maj in counts))
        self.assertEqual(shape_sum((2,)).number_at("s", (2,)), shape_sum((1, 1)).number_at("s", (2,)))


if __name__ == "__main__":
    unittest.main()
