"""Two triangles: [8.1] to [8.5]."""

import unittest

from armlegs.base.polys import Poly
from armlegs.base.shapes import norm, turned_shape
from armlegs.errors import InvalidOperation, InvalidShape, InvalidSum
from armlegs.fill.fillings import shape_sum
from armlegs.fill.triangles import (
    barred_shapes, corner_number, first_failure, is_shape_sum, multiple_of, triangle, which_shape,
)
from armlegs.sums.sums import Sum
from tests.helpers import HOOK, NO_TUPLES, ONE, Q, T, ZERO, all_shapes, refuse, sample_sums, squares
from tests.test_shapes import EVERY, NO_SHAPES, SIZES, arm_of, leg_of

SMALL = [shape for size in range(1, 5) for shape in all_shapes(size)]
NO_SUMS = NO_TUPLES[:23] + ((), (1,), (2, 1), (HOOK,), [HOOK], {1: HOOK}, HOOK.pairs, (3, HOOK.pairs), 0)
NO_SUMS = tuple(wrong for wrong in NO_SUMS if not isinstance(wrong, Sum))
NO_LETTERS = (
    None, True, False, 0, 1, "", "Q", "T", "qt", "x", " q", "q ", ("q",), ["q"], {"q": 1}, Q, T, HOOK, ("q", "t"), b"q",
)
EMPTY = Sum(0, (((), ONE),))


def dominates(one, other):
    return all(sum(one[:k]) >= sum(other[:k]) for k in range(1, 7))


def brute_barred(shape, letter):
    low = shape if letter == "q" else turned_shape(shape)
    return tuple(other for other in all_shapes(sum(shape)) if not dominates(other, low))


def brute_triangle(f, letter):
    """The triangle by the numbers of the kind "p"."""
    told = []
    for cycles, number in f.numbers("p"):
        for k in cycles:
            number = number * (ONE - (Poly.letter(k, 0) if letter == "q" else Poly.letter(0, k)))
        told.append((cycles, number))
    return Sum.from_numbers("p", f.size, tuple(told))


def brute_failure(shape, f):
    if f.size != sum(shape):
        return ("size",)
    for letter in ("q", "t"):
        made = brute_triangle(f, letter)
        for other in brute_barred(shape, letter):
            if made.number_at("s", other) != ZERO:
                return (letter, other)
    return None if f.number_at("s", (f.size,)) == ONE else ("one",)


def sums_of(size):
    """Sums of shapes, sums of these, and others."""
    told = [shape_sum(shape) for shape in all_shapes(size)]
    more = [one.times(number) for one in told for number in (-ONE, Q - T, Poly.letter(-1, 2))]
    both = [one + other.times(Q) for one, other in zip(told, told[1:])]
    units = [Sum.of_kind(kind, shape) for kind in "mehps" for shape in all_shapes(size)]
    return told + more + both + units + sample_sums(size)


class TestTriangles(unittest.TestCase):
    def test_triangle(self):
        for size in range(7):
            for f in sample_sums(size)[:3]:
                for letter in ("q", "t"):
                    self.assertEqual(triangle(f, letter), brute_triangle(f, letter))
        for shape in EVERY:
            self.assertEqual(triangle(shape_sum(shape), "q").with_traded(), triangle(shape_sum(turned_shape(shape)), "t"))
        self.assertEqual(triangle(Sum.of_kind("s", (1,)), "q").pairs, (((1,), ONE - Q),))
        self.assertEqual(triangle(Sum.of_kind("s", (1,)), "t").pairs, (((1,), ONE - T),))
        self.assertEqual(triangle(EMPTY, "q"), EMPTY)

    def test_triangle_errors(self):
        for wrong in NO_SUMS:
            refuse(self, InvalidSum, None, triangle, wrong, "q")
            refuse(self, InvalidSum, None, triangle, wrong, None)
        for wrong in NO_LETTERS:
            refuse(self, InvalidOperation, None, triangle, HOOK, wrong)

    def test_barred_shapes(self):
        for shape in EVERY:
            for letter in ("q", "t"):
                self.assertEqual(barred_shapes(shape, letter), brute_barred(shape, letter))
        self.assertEqual(barred_shapes((1,), "q"), ())
        self.assertEqual(barred_shapes((3,), "q"), ((2, 1), (1, 1, 1)))
        self.assertEqual(barred_shapes((3,), "t"), ())
        self.assertEqual(barred_shapes((3, 1, 1, 1), "q"), ((2, 2, 2), (2, 2, 1, 1), (2, 1, 1, 1, 1), (1,) * 6))
        self.assertEqual(barred_shapes((4, 1, 1), "t")[:1], ((2, 2, 2),))

    def test_barred_errors(self):
        for call in (barred_shapes, corner_number):
            for wrong in NO_SHAPES:
                refuse(self, InvalidShape, None, call, wrong, "q")
                refuse(self, InvalidShape, None, call, wrong, None)
            for wrong in NO_LETTERS:
                refuse(self, InvalidOperation, None, call, (2, 1), wrong)

    def test_rules(self):
        for shape in EVERY:
            made = shape_sum(shape)
            self.assertIs(first_failure(shape, made), None)
            for letter in ("q", "t"):
                lowest = shape if letter == "q" else turned_shape(shape)
                numbers = dict(triangle(made, letter).numbers("s"))
                self.assertEqual([other for other in barred_shapes(shape, letter) if other in numbers], [])
                self.assertEqual(numbers[lowest], corner_number(shape, letter))

    def test_first_failure(self):
        kinds = {}
        for shape in SMALL:
            for f in sums_of(sum(shape)):
                made = first_failure(shape, f)
                self.assertEqual(made, brute_failure(shape, f), (shape, f.pairs))
                kinds.setdefault(made and made[0], []).append(made)
        self.assertEqual(sorted(kinds, key=str), [None, "one", "q", "t"])
        for shape in ((3, 2), (2, 1, 1, 1), (4, 1, 1), (3, 1, 1, 1), (3, 2, 1)):
            for f in sample_sums(sum(shape)) + [shape_sum(turned_shape(shape)), shape_sum(shape).times(Q)]:
                self.assertEqual(first_failure(shape, f), brute_failure(shape, f))

    def test_known_failures(self):
        self.assertEqual(first_failure((2, 1), EMPTY), ("size",))
        self.assertEqual(first_failure((2, 1), shape_sum((2, 2))), ("size",))
        self.assertEqual(first_failure((2, 1), Sum(3, ())), ("one",))
        self.assertEqual(first_failure((2, 1), HOOK.times(-ONE)), ("one",))
        self.assertEqual(first_failure((2,), shape_sum((1, 1))), ("q", (1, 1)))
        self.assertEqual(first_failure((1, 1), shape_sum((2,))), ("t", (1, 1)))
        self.assertEqual(first_failure((3,), Sum.of_kind("s", (2, 1))), ("q", (2, 1)))

    def test_failure_errors(self):
        for wrong in NO_SHAPES:
            refuse(self, InvalidShape, None, first_failure, wrong, HOOK)
            refuse(self, InvalidShape, None, first_failure, wrong, None)
        for wrong in NO_SUMS:
            refuse(self, InvalidSum, None, first_failure, (2, 1), wrong)

    def test_is_shape_sum(self):
        for shape in SMALL:
            for f in sums_of(sum(shape)):
                self.assertIs(is_shape_sum(shape, f), brute_failure(shape, f) is None)
        for one in all_shapes(6):
            for other in all_shapes(6)[::3]:
                self.assertIs(is_shape_sum(one, shape_sum(other)), one == other)
        self.assertIs(is_shape_sum((2, 1), HOOK), True)
        for wrong in NO_SUMS + NO_LETTERS + (EMPTY, Sum(3, ()), shape_sum((2,)), shape_sum((2, 1, 1))):
            if wrong != HOOK:
                self.assertIs(is_shape_sum((2, 1), wrong), False)
        for wrong in NO_SHAPES:
            refuse(self, InvalidShape, None, is_shape_sum, wrong, HOOK)
            refuse(self, InvalidShape, None, is_shape_sum, wrong, None)

    def test_which_shape(self):
        for size in range(1, 5):
            for f in sums_of(size):
                right = [shape for shape in all_shapes(size) if f == shape_sum(shape)]
                self.assertEqual(which_shape(f), right[0] if right else None)
        for shape in EVERY:
            self.assertEqual(which_shape(shape_sum(shape)), shape)
        for f in (EMPTY, Sum(0, ()), Sum(3, ()), HOOK.times(Q), HOOK.times(Poly.number(2)), HOOK + HOOK):
            self.assertIs(which_shape(f), None)
        for wrong in NO_SUMS:
            refuse(self, InvalidSum, None, which_shape, wrong)
            refuse(self, InvalidSum, None, multiple_of, wrong)

    def test_multiple_of(self):
        for shape in EVERY:
            for number in (ONE, -ONE, Q - T, Poly.letter(-3, 2) + Poly.number(5)):
                self.assertEqual(multiple_of(shape_sum(shape).times(number)), (shape, number))
        for size in range(1, 5):
            for f in sums_of(size):
                right = None
                for shape in all_shapes(size):
                    if f and (brute_failure(shape, f) or ("one",)) == ("one",):
                        right = (shape, f.number_at("s", (size,)))
                self.assertEqual(multiple_of(f), right)
                if right is not None:
                    self.assertEqual(shape_sum(right[0]).times(right[1]), f)
        for f in (EMPTY, Sum(0, ()), Sum(3, ()), Sum(6, ()), shape_sum((2,)) + shape_sum((1, 1))):
            self.assertIs(multiple_of(f), None)

    def test_corner_numbers(self):
        for shape in EVERY:
            right = {"q": ONE, "t": ONE}
            for square in squares(shape):
                a, b = arm_of(shape, square), leg_of(shape, square)
                right["q"] = right["q"] * (Poly.letter(0, b) - Poly.letter(a + 1, 0))
                right["t"] = right["t"] * (Poly.letter(a, 0) - Poly.letter(0, b + 1))
            for letter in ("q", "t"):
                self.assertEqual(corner_number(shape, letter), right[letter])
            self.assertEqual(corner_number(shape, "q") * corner_number(shape, "t"), norm(shape))
            self.assertEqual(corner_number(shape, "q").traded(), corner_number(turned_shape(shape), "t"))

    def test_not_true(self):
        # No shape is barred for "q" here, so each sum with the number 1 at (2,) has this triangle right.
        self.assertEqual(barred_shapes((1, 1), "q"), ())
        self.assertEqual(first_failure((1, 1), Sum.of_kind("s", (2,))), ("t", (1, 1)))
        for size in SIZES[1:4]:
            first, second = all_shapes(size)[:2]
            both = shape_sum(first) + shape_sum(second)
            self.assertIs(multiple_of(both), None)
        self.assertNotEqual(corner_number((2,), "q"), corner_number((1, 1), "q"))


if __name__ == "__main__":
    unittest.main()
