"""Symmetric sums: [4.1] to [4.5]."""

import unittest
from fractions import Fraction
from itertools import product

from armlegs.base.polys import Poly
from armlegs.base.traces import tableau_count, trace, z_of
from armlegs.errors import (
    InvalidNumber, InvalidOperation, InvalidPoly, InvalidShape, InvalidSum, Refused, TooMany, UnknownName,
)
from armlegs.sums import sums
from armlegs.sums.sums import KINDS, Sum, pairing, standard_number
from tests.helpers import (
    HOOK, NO_INTEGERS, NO_TUPLES, ONE, Q, T, ZERO, all_shapes, coefficient, expanded, refuse, sample_sums,
)

SIZES = range(7)
NO_KINDS = (None, True, 0, 1, "", "me", "M", "x", "ms", "hh", ("m",), ["m"], {"m": 1}, ONE, HOOK, (), "power")
NO_SHAPES = NO_TUPLES + ((0,), (7,), (1, 2), (2, 1, 0), (4, 3), (1,) * 7)


def turned(shape):
    return tuple(len([part for part in shape if part > k]) for k in range(shape[0] if shape else 0))


def unit(shape):
    return Sum(sum(shape), ((shape, ONE),))


def sign_of(cycles):
    return (-1) ** len([part for part in cycles if part % 2 == 0])


class TestKinds(unittest.TestCase):
    def test_constants(self):
        self.assertEqual((sums.MOST_SIZE, KINDS), (6, ("m", "e", "h", "p", "s")))

    def test_of_kind_by_products_of_letters(self):
        for size in SIZES:
            for kind in KINDS:
                for shape in all_shapes(size):
                    made = Sum.of_kind(kind, shape)
                    self.assertEqual(made.size, size)
                    for powers, number in expanded(made).items():
                        self.assertEqual(number, Poly.number(coefficient(kind, shape, powers)), (kind, shape, powers))

    def test_known_sums(self):
        self.assertEqual(Sum.of_kind("m", (2, 1)).pairs, (((2, 1), ONE), ((1, 1, 1), Poly.number(-2))))
        self.assertEqual(Sum.of_kind("p", (3,)).pairs, (((3,), ONE), ((2, 1), -ONE), ((1, 1, 1), ONE)))
        self.assertEqual(Sum.of_kind("e", (2, 1)).pairs, (((2, 1), ONE), ((1, 1, 1), ONE)))
        self.assertEqual(Sum.of_kind("h", (2, 1)).pairs, (((3,), ONE), ((2, 1), ONE)))
        self.assertEqual(Sum.of_kind("s", (2, 1)).pairs, (((2, 1), ONE),))
        for kind in KINDS:
            self.assertEqual(Sum.of_kind(kind, ()), Sum(0, (((), ONE),)))
            self.assertEqual(Sum.of_kind(kind, (1,)), Sum(1, (((1,), ONE),)))

    def test_of_kind_errors(self):
        for wrong in NO_KINDS:
            refuse(self, UnknownName, ("asked", wrong), Sum.of_kind, wrong, (2, 1))
            refuse(self, UnknownName, ("asked", wrong), Sum.of_kind, wrong, None)
        for kind in KINDS:
            for wrong in NO_SHAPES:
                refuse(self, InvalidShape, None, Sum.of_kind, kind, wrong)

    def test_numbers_are_pairings(self):
        for size in SIZES:
            for some in sample_sums(size):
                for kind in KINDS:
                    told = tuple((shape, pairing(some, Sum.of_kind(kind, shape))) for shape in all_shapes(size))
                    for shape, number in told:
                        self.assertEqual(some.number_at(kind, shape), number)
                    self.assertEqual(some.numbers(kind), tuple(pair for pair in told if len(pair[1]) > 0))

    def test_numbers_by_letters(self):
        for size in SIZES:
            for some in sample_sums(size):
                told = {shape: number for shape, number in expanded(some).items() if number != ZERO}
                self.assertEqual(dict(some.numbers("h")), told)
                self.assertEqual(some.numbers("s"), some.pairs)
                made = Sum(size, ())
                for shape, number in some.numbers("m"):
                    made = made + Sum.of_kind("h", shape).times(number)
                self.assertEqual(made, some)
                made = Sum(size, ())
                for shape, number in some.numbers("h"):
                    made = made + Sum.of_kind("m", shape).times(number)
                self.assertEqual(made, some)

    def test_numbers_at_cycles(self):
        for size in range(1, 7):
            for some in sample_sums(size):
                for cycles in all_shapes(size):
                    made = ZERO
                    for shape, number in some.pairs:
                        made = made + number * Poly.number(trace(shape, cycles))
                    self.assertEqual(some.number_at("p", cycles), made)

    def test_number_errors(self):
        for wrong in NO_KINDS:
            refuse(self, UnknownName, ("asked", wrong), HOOK.number_at, wrong, (2, 1))
            refuse(self, UnknownName, ("asked", wrong), HOOK.number_at, wrong, (2,))
            refuse(self, UnknownName, ("asked", wrong), HOOK.numbers, wrong)
        for kind in KINDS:
            for wrong in NO_SHAPES + ((), (2,), (4,), (1, 1, 1, 1)):
                if wrong != (3,):
                    refuse(self, InvalidShape, None, HOOK.number_at, kind, wrong)

    def test_standard_number(self):
        self.assertEqual(standard_number(HOOK), ONE + Q + Q + T + T + Q * T)
        self.assertEqual(standard_number(Sum(0, (((), Q - T),))), Q - T)
        self.assertEqual(standard_number(Sum(0, ())), ZERO)
        for size in range(1, 7):
            for some in sample_sums(size):
                self.assertEqual(standard_number(some), some.number_at("h", (1,) * size))
        for wrong in NO_TUPLES:
            if not isinstance(wrong, Sum):
                refuse(self, InvalidSum, None, standard_number, wrong)

    def test_tableau_counts(self):
        for size in range(1, 7):
            for content in all_shapes(size):
                made = Sum.of_kind("h", content)
                for shape in all_shapes(size):
                    self.assertEqual(made.number_at("s", shape), Poly.number(tableau_count(shape, content)))


class TestFromNumbers(unittest.TestCase):
    def test_there_and_back(self):
        for size in SIZES:
            for some in sample_sums(size):
                for kind in KINDS:
                    self.assertEqual(Sum.from_numbers(kind, size, some.numbers(kind)), some)

    def test_single_numbers(self):
        for size in SIZES:
            for kind in ("m", "e", "h", "s"):
                for shape in all_shapes(size):
                    made = Sum.from_numbers(kind, size, ((shape, Q - T),))
                    self.assertEqual(made.numbers(kind), ((shape, Q - T),))
            for shape in all_shapes(size):
                many = Poly.number(z_of(shape) if shape else 1)
                made = Sum.from_numbers("p", size, ((shape, many * Q),))
                self.assertEqual(made, Sum.of_kind("p", shape).times(Q))
        self.assertEqual(Sum.from_numbers("h", 2, ()), Sum(2, ()))

    def test_fractions(self):
        refuse(self, Refused, ("reason", ("fraction", (2,))), Sum.from_numbers, "p", 2, (((2,), ONE),))
        refuse(self, Refused, ("reason", ("fraction", (2,))), Sum.from_numbers, "p", 2, (((1, 1), Q - T),))
        later = 0
        for size in (2, 3, 4):
            shapes = all_shapes(size)
            for told in product((0, 1, 2, -3), repeat=len(shapes)):
                later += self.check_fractions(size, shapes, told)
        self.assertGreater(later, 10)

    def check_fractions(self, size, shapes, told):
        pairs = tuple((shape, Poly.letter(1, -2) * Poly.number(c)) for shape, c in zip(shapes, told) if c)
        right = {}
        for shape in shapes:
            parts = [Fraction(trace(shape, cycles) * c, z_of(cycles)) for cycles, c in zip(shapes, told)]
            right[shape] = sum(parts)
        failing = [shape for shape in shapes if right[shape].denominator != 1]
        if failing:
            refuse(self, Refused, ("reason", ("fraction", failing[0])), Sum.from_numbers, "p", size, pairs)
            return 1 if failing[0] != shapes[0] else 0
        made = Sum.from_numbers("p", size, pairs)
        self.assertEqual({shape: made.number_at("s", shape).at(1, 1)[0] for shape in shapes}, right)
        return 0

    def test_errors(self):
        pairs = (((2,), ONE),)
        for wrong in NO_KINDS:
            refuse(self, UnknownName, ("asked", wrong), Sum.from_numbers, wrong, 2, pairs)
            refuse(self, UnknownName, ("asked", wrong), Sum.from_numbers, wrong, 7, None)
        for kind in KINDS:
            for wrong in NO_INTEGERS + (-1, 7):
                refuse(self, InvalidNumber, ("given", wrong), Sum.from_numbers, kind, wrong, pairs)
                refuse(self, InvalidNumber, ("given", wrong), Sum.from_numbers, kind, wrong, None)
            for wrong in NO_PAIRS:
                refuse(self, InvalidSum, None, Sum.from_numbers, kind, 2, wrong)


NO_PAIRS = tuple(wrong for wrong in NO_TUPLES if wrong != ()) + (
    [((2,), ONE)], ([(2,), ONE],), (((2,), ONE, ONE),), (((2,),),), (((2,), 1),), (((2,), ZERO),), (((3,), ONE),),
    (((), ONE),), (((1,), ONE),), (([2], ONE),), (((2,), ONE), ((2,), ONE)), (((1, 1), ONE), ((2,), ONE)),
    (((2,), ONE), ((1, 1), ZERO)), (((2,), ONE), None), ((ONE, (2,)),), (((True, True), ONE),), (((1, True), ONE),),
    (((2,), HOOK),), ((2,), ONE), (((2,), ONE), ((1, 1), Q), ((1, 1), T)), {(2,): ONE}, (((2, 0), ONE),),
)


class TestSum(unittest.TestCase):
    def test_told(self):
        for size in SIZES:
            for some in sample_sums(size):
                again = Sum(size, some.pairs)
                self.assertEqual((again.size, again.pairs), (size, some.pairs))
        pairs = (((6,), Q), ((2, 2, 1, 1), T), ((1,) * 6, -ONE))
        self.assertEqual(Sum(6, pairs).pairs, pairs)
        self.assertEqual(Sum(0, (((), Q),)).pairs, (((), Q),))

    def test_wrong(self):
        for wrong in NO_INTEGERS + (-1, 7):
            refuse(self, InvalidNumber, ("given", wrong), Sum, wrong, ())
            refuse(self, InvalidNumber, ("given", wrong), Sum, wrong, None)
        for wrong in NO_PAIRS:
            refuse(self, InvalidSum, None, Sum, 2, wrong)
        for size in (0, 6):
            self.assertEqual(Sum(size, ()).pairs, ())
            refuse(self, InvalidSum, None, Sum, size, (((7,), ONE),))
        refuse(self, InvalidSum, None, Sum, 0, (((0,), ONE),))

    def test_long_numbers_are_passed_on(self):
        long = Poly.letter(200, 200).power(20) * Poly.number(10 ** 59).power(3)
        some = Sum(2, (((2,), long),))
        self.assertEqual(some.times(long).pairs, (((2,), long * long),))

    def test_addition(self):
        for size in SIZES:
            for one in sample_sums(size):
                for other in sample_sums(size):
                    for made, sign in ((one + other, ONE), (one - other, -ONE)):
                        for shape in all_shapes(size):
                            right = one.number_at("s", shape) + sign * other.number_at("s", shape)
                            self.assertEqual(made.number_at("s", shape), right)
                        self.assertTrue(all(len(number) > 0 for _, number in made.pairs))
                        self.assertEqual(Sum(size, made.pairs), made)
                self.assertEqual((-one).pairs, tuple((shape, -number) for shape, number in one.pairs))
                self.assertEqual((one - one).pairs, ())

    def test_products_by_letters(self):
        for size in SIZES:
            for more in range(7 - size):
                for one in sample_sums(size)[1:3]:
                    for other in sample_sums(more)[1:3]:
                        self.check_product(one, other)

    def check_product(self, one, other):
        made = one * other
        self.assertEqual(made.size, one.size + other.size)
        left = expanded(one)
        right = expanded(other)
        for powers, number in expanded(made).items():
            total = ZERO
            for taken in product(*[range(power + 1) for power in powers]):
                if sum(taken) == one.size:
                    rest = [power - used for power, used in zip(powers, taken)]
                    first = tuple(sorted([k for k in taken if k], reverse=True))
                    second = tuple(sorted([k for k in rest if k], reverse=True))
                    total = total + left[first] * right[second]
            self.assertEqual(number, total)
        self.assertEqual(other * one, made)

    def test_products_of_kinds(self):
        for kind in ("e", "h", "p"):
            for one in ((), (1,), (2, 1), (3,), (1, 1, 1)):
                for other in ((), (2,), (2, 1), (1, 1)):
                    joined = tuple(sorted(one + other, reverse=True))
                    self.assertEqual(Sum.of_kind(kind, one) * Sum.of_kind(kind, other), Sum.of_kind(kind, joined))
        self.assertEqual((unit((2, 1)) * unit((2, 1))).pairs, (
            ((4, 2), ONE), ((4, 1, 1), ONE), ((3, 3), ONE), ((3, 2, 1), Poly.number(2)), ((3, 1, 1, 1), ONE),
            ((2, 2, 2), ONE), ((2, 2, 1, 1), ONE)))

    def test_products_of_tableau_sums_are_positive(self):
        for size in SIZES:
            for one in all_shapes(size):
                for more in range(7 - size):
                    for other in all_shapes(more):
                        for _, number in (unit(one) * unit(other)).pairs:
                            self.assertTrue(number.is_positive() and all(row[:2] == (0, 0) for row in number.rows))

    def test_operator_errors(self):
        for size in SIZES:
            for more in SIZES:
                one = sample_sums(size)[1]
                other = sample_sums(more)[0]
                if size != more:
                    refuse(self, InvalidOperation, None, lambda: one + other)
                    refuse(self, InvalidOperation, None, lambda: one - other)
                if size + more > 6:
                    refuse(self, TooMany, ("limit", 6), lambda: one * other)
        for other in (1, 0, True, None, "a", (), [1], {}, ONE, ZERO, (((3,), ONE),)):
            self.assertRaises(TypeError, lambda: HOOK + other)
            self.assertRaises(TypeError, lambda: other + HOOK)
            self.assertRaises(TypeError, lambda: HOOK - other)
            self.assertRaises(TypeError, lambda: other - HOOK)
            self.assertRaises(TypeError, lambda: HOOK * other)
            self.assertRaises(TypeError, lambda: other * HOOK)

    def test_times(self):
        for some in sample_sums(4):
            for poly in (ONE, Q - T, Poly.letter(-2, 1), -ONE):
                right = tuple((shape, number * poly) for shape, number in some.pairs)
                self.assertEqual(some.times(poly).pairs, right)
            self.assertEqual(some.times(ZERO), Sum(4, ()))
        for wrong in NO_TUPLES + (1, HOOK):
            if not isinstance(wrong, Poly):
                refuse(self, InvalidPoly, None, HOOK.times, wrong)

    def test_turned(self):
        for size in SIZES:
            for some in sample_sums(size):
                made = some.turned()
                for shape in all_shapes(size):
                    self.assertEqual(made.number_at("s", shape), some.number_at("s", turned(shape)))
                    sign = Poly.number(sign_of(shape))
                    self.assertEqual(made.number_at("p", shape), some.number_at("p", shape) * sign)
                    self.assertEqual(made.number_at("e", shape), some.number_at("h", shape))
                    self.assertEqual(made.number_at("h", shape), some.number_at("e", shape))
                self.assertEqual(made.turned(), some)
                self.assertEqual(Sum(size, made.pairs), made)
            for shape in all_shapes(size):
                self.assertEqual(Sum.of_kind("e", shape).turned(), Sum.of_kind("h", shape))
                made = Sum.of_kind("p", shape).turned()
                self.assertEqual(made, Sum.of_kind("p", shape).times(Poly.number(sign_of(shape))))
        for one in sample_sums(3):
            for other in sample_sums(3):
                self.assertEqual(pairing(one.turned(), other.turned()), pairing(one, other))
                self.assertEqual((one * other).turned(), one.turned() * other.turned())

    def test_traded_and_inverted(self):
        for size in SIZES:
            for some in sample_sums(size):
                right = tuple((shape, number.traded()) for shape, number in some.pairs)
                self.assertEqual(some.with_traded().pairs, right)
                right = tuple((shape, number.inverted()) for shape, number in some.pairs)
                self.assertEqual(some.with_inverted().pairs, right)
                self.assertEqual(some.with_traded().size, size)
        self.assertEqual(HOOK.turned().with_traded().pairs, (((3,), Q * T), ((2, 1), Q + T), ((1, 1, 1), ONE)))
        self.assertEqual(Sum(1, (((1,), Q),)).with_traded().pairs, (((1,), T),))
        self.assertEqual(Sum(1, (((1,), Q),)).with_inverted().pairs, (((1,), Poly.letter(-1, 0)),))

    def test_equality(self):
        many = [some for size in SIZES for some in sample_sums(size)]
        for k, one in enumerate(many):
            for m, other in enumerate(many):
                right = (one.size, one.pairs) == (other.size, other.pairs)
                self.assertIs(one == other, right)
                self.assertIs(one != other, not right)
                self.assertTrue(right or k != m)
            for other in (None, 1, "a", one.pairs, ONE, [], ()):
                self.assertIs(one == other, False)
                self.assertIs(one != other, True)
                self.assertIs(other == one, False)
        self.assertEqual(Sum(2, ()) == Sum(3, ()), False)
        self.assertIn(Sum(2, ()), [1, None, Sum(2, ())])

    def test_bool_and_str(self):
        told = [bool(some) for some in (Sum(0, ()), Sum(6, ()), HOOK, HOOK - HOOK, Sum(0, (((), Q),)))]
        self.assertEqual(told, [False, False, True, False, True])
        self.assertIs(bool(HOOK), True)
        self.assertIs(bool(Sum(3, ())), False)
        self.assertEqual(str(HOOK), "sum of size 3, 3 numbers")
        self.assertEqual(str(Sum(0, ())), "sum of size 0, 0 numbers")
        self.assertEqual(str(Sum(6, (((4, 2), Q + T),))), "sum of size 6, 1 numbers")

    def test_not_iterated(self):
        for call in (iter, list, tuple, sorted, set):
            self.assertRaises(TypeError, call, HOOK)

    def test_never_changes(self):
        pairs = HOOK.pairs
        right = tuple((shape, Poly(number.rows)) for shape, number in pairs)
        for _ in range(2):
            results = (HOOK + HOOK, HOOK - HOOK, -HOOK, HOOK * HOOK, HOOK.times(Q), HOOK.turned(), HOOK.with_traded(),
                       HOOK.with_inverted(), HOOK.numbers("m"), HOOK.number_at("p", (3,)), str(HOOK), bool(HOOK))
            self.assertEqual(len(results), 12)
            refuse(self, InvalidOperation, None, lambda: HOOK + Sum(2, ()))
            refuse(self, TooMany, ("limit", 6), lambda: HOOK * Sum.of_kind("h", (4,)))
            refuse(self, InvalidPoly, None, HOOK.times, 2)
            self.assertEqual((HOOK.size, HOOK.pairs), (3, right))
        for name in ("size", "pairs"):
            self.assertRaises(AttributeError, setattr, HOOK, name, ())


class TestPairing(unittest.TestCase):
    def test_pairing(self):
        for size in SIZES:
            for one in sample_sums(size):
                for other in sample_sums(size):
                    made = ZERO
                    for shape in all_shapes(size):
                        made = made + one.number_at("s", shape) * other.number_at("s", shape)
                    self.assertEqual(pairing(one, other), made)
                    self.assertEqual(pairing(other, one), made)

    def test_pairing_by_cycles(self):
        for size in range(1, 6):
            one, other = sample_sums(size)[1:3]
            made = ZERO
            for cycles in all_shapes(size):
                share = Poly.number(720 * 60 // z_of(cycles))
                made = made + one.number_at("p", cycles) * other.number_at("p", cycles) * share
            self.assertEqual(made, pairing(one, other) * Poly.number(720 * 60))

    def test_kinds(self):
        for size in SIZES:
            for one in all_shapes(size):
                for other in all_shapes(size):
                    same = ONE if one == other else ZERO
                    self.assertEqual(pairing(Sum.of_kind("m", one), Sum.of_kind("h", other)), same)
                    self.assertEqual(pairing(Sum.of_kind("s", one), Sum.of_kind("s", other)), same)

    def test_errors(self):
        for wrong in NO_TUPLES:
            if not isinstance(wrong, Sum):
                refuse(self, InvalidSum, None, pairing, wrong, HOOK)
                refuse(self, InvalidSum, None, pairing, HOOK, wrong)
        refuse(self, InvalidOperation, None, pairing, HOOK, Sum(2, ()))
        refuse(self, InvalidOperation, None, pairing, Sum(0, ()), HOOK)

    def test_not_true(self):
        one = Sum.of_kind("p", (1, 1, 1))
        told = [pair for pair in one.numbers("p") if pair[0] != (1, 1, 1)]
        self.assertEqual((told, one == Sum(3, ())), ([], False))
        refuse(self, Refused, ("reason", ("fraction", (2,))), Sum.from_numbers, "p", 2, (((2,), ONE),))
        numbers = [number.is_positive() for kind in KINDS for _, number in Sum.of_kind("m", (2, 1)).numbers(kind)]
        self.assertIn(False, numbers)


if __name__ == "__main__":
    unittest.main()
