"""Letters put in: [5.1] to [5.6]."""

import unittest
from fractions import Fraction
from itertools import product

from armlegs.base.polys import Poly
from armlegs.base.traces import trace, z_of
from armlegs.errors import InvalidOperation, InvalidPoly, InvalidShape, InvalidSum, Refused, UnknownName
from armlegs.sums.letters import added_letters, put_letters, taken_out, times_letters, without_letters
from armlegs.sums.sums import KINDS, Sum, pairing
from tests.helpers import HOOK, NO_TUPLES, ONE, Q, T, ZERO, all_shapes, at_letters, refuse, sample_sums
from tests.test_sums import NO_KINDS, NO_SHAPES

SIZES = range(7)
POLYS = (
    ZERO, ONE, -ONE, Q, ONE - Q, Q + T, (ONE - Q) * (ONE - T), Poly.number(2), Poly.number(-3) * Q,
    Poly.letter(-1, 0) - Poly.letter(0, -2), Q * T + Q - Poly.letter(-1, 1),
)
# Each of these has terms with the coefficient 1 alone, so its terms are letters.
LETTERS = ((), (ONE,), (Q, T), (ONE, Q, Q * Q), (Poly.letter(-1, 2), T, T), (Q, Q))


def total(letters):
    made = ZERO
    for letter in letters:
        made = made + letter
    return made


def put_at(poly, cycles):
    made = ONE
    for row in cycles:
        made = made * poly.stretched(row)
    return made


def unit(shape):
    return Sum(sum(shape), ((shape, ONE),))


class TestTimesLetters(unittest.TestCase):
    def test_numbers_at_cycles(self):
        for size in SIZES:
            for some in sample_sums(size)[:3]:
                for poly in POLYS:
                    made = times_letters(some, poly)
                    self.assertEqual(made.size, size)
                    for cycles in all_shapes(size):
                        right = some.number_at("p", cycles) * put_at(poly, cycles)
                        self.assertEqual(made.number_at("p", cycles), right)

    def test_by_letters(self):
        for size in range(5):
            for some in sample_sums(size)[1:3]:
                for letters in LETTERS[:5]:
                    made = times_letters(some, total(letters))
                    both = [one * other for one in (Q, T, ONE) for other in letters]
                    self.assertEqual(at_letters(made, (Q, T, ONE)), at_letters(some, both))

    def test_signs_and_products(self):
        for size in SIZES:
            for some in sample_sums(size)[1:3]:
                made = times_letters(some, -ONE)
                for cycles in all_shapes(size):
                    sign = Poly.number((-1) ** len(cycles))
                    self.assertEqual(made.number_at("p", cycles), some.number_at("p", cycles) * sign)
                self.assertEqual(times_letters(some, ONE), some)
                self.assertEqual(times_letters(times_letters(some, Q + T), ONE - Q),
                                 times_letters(some, (Q + T) * (ONE - Q)))
        for one in sample_sums(2)[1:3]:
            for other in sample_sums(3)[1:3]:
                for poly in POLYS:
                    self.assertEqual(times_letters(one * other, poly),
                                     times_letters(one, poly) * times_letters(other, poly))

    def test_not_true(self):
        made = times_letters(unit((2,)), ONE - Q)
        self.assertEqual([shape for shape, _ in made.numbers("s")], [(2,), (1, 1)])
        both = times_letters(unit((2,)), Q + T)
        self.assertNotEqual(both, times_letters(unit((2,)), Q) + times_letters(unit((2,)), T))


class TestPutLetters(unittest.TestCase):
    def test_by_letters(self):
        for size in range(6):
            for some in sample_sums(size):
                for letters in LETTERS:
                    self.assertEqual(put_letters(some, total(letters)), at_letters(some, letters))

    def test_with_signs(self):
        for size in SIZES:
            for some in sample_sums(size)[1:3]:
                for poly in POLYS:
                    made = ZERO
                    whole = 1
                    for cycles in all_shapes(size):
                        whole = whole * (z_of(cycles) if cycles else 1)
                    for cycles in all_shapes(size):
                        share = Poly.number(whole // (z_of(cycles) if cycles else 1))
                        made = made + some.number_at("p", cycles) * put_at(poly, cycles) * share
                    self.assertEqual(put_letters(some, poly) * Poly.number(whole), made)
                    sign = Poly.number((-1) ** size)
                    self.assertEqual(put_letters(some, -poly), put_letters(some.turned(), poly) * sign)

    def test_known(self):
        self.assertEqual(put_letters(unit((2,)), ONE - Q), ONE - Q)
        self.assertEqual(put_letters(unit((1, 1)), ONE - Q), Q * Q - Q)
        self.assertEqual(put_letters(Sum(0, (((), Q - T),)), ZERO), Q - T)
        self.assertEqual(put_letters(HOOK, ZERO), ZERO)


class TestAddedLetters(unittest.TestCase):
    def test_form(self):
        for size in SIZES:
            for some in sample_sums(size)[:3]:
                for poly in POLYS:
                    made = added_letters(some, poly)
                    self.assertIsInstance(made, tuple)
                    self.assertEqual([part.size for part in made[:-1]], list(range(size, 0, -1)))
                    self.assertIsInstance(made[-1], Poly)
                    self.assertEqual(made[-1], put_letters(some, poly))
                    if size > 0:
                        self.assertEqual(made[0], some)
        self.assertEqual(added_letters(Sum(0, (((), Q),)), T), (Q,))
        self.assertEqual(added_letters(Sum(0, ()), T), (ZERO,))
        self.assertEqual(added_letters(Sum(2, ()), T), (Sum(2, ()), Sum(1, ()), ZERO))

    def test_rows_and_columns(self):
        for size in range(1, 7):
            for kind in ("h", "e"):
                for poly in POLYS:
                    made = added_letters(Sum.of_kind(kind, (size,)), poly)
                    for k in range(size):
                        number = put_letters(Sum.of_kind(kind, (k,) if k else ()), poly)
                        self.assertEqual(made[k], Sum.of_kind(kind, (size - k,)).times(number))

    def test_by_letters(self):
        for size in range(1, 5):
            for some in sample_sums(size)[1:3]:
                for letters in LETTERS:
                    made = added_letters(some, total(letters))
                    # A third letter apart from all others tells the sizes of the parts.
                    far = [letter.shifted(0, 100) for letter in (Q, T, ONE)]
                    self.assertEqual(at_letters(some, far + list(letters)), self.told(made, far))

    def told(self, made, letters):
        found = made[-1]
        for part in made[:-1]:
            found = found + at_letters(part, letters)
        return found

    def test_products(self):
        one, other = sample_sums(2)[1:3]
        for poly in POLYS:
            parts = added_letters(one, poly)
            others = added_letters(other, poly)
            made = added_letters(one * other, poly)
            middle = parts[0].times(others[2]) + parts[1] * others[1] + others[0].times(parts[2])
            self.assertEqual(made[2], middle)
            self.assertEqual(made[3], parts[1].times(others[2]) + others[1].times(parts[2]))
            self.assertEqual(made[4], parts[2] * others[2])


class TestWithoutLetters(unittest.TestCase):
    def test_undone(self):
        for size in SIZES:
            for some in sample_sums(size):
                for poly in POLYS[1:]:
                    self.assertEqual(without_letters(times_letters(some, poly), poly), some)
        some = Sum(0, (((), Q),))
        self.assertEqual(without_letters(some, ZERO), some)
        self.assertEqual(without_letters(Sum(0, ()), ZERO), Sum(0, ()))

    def test_zero(self):
        for size in range(1, 7):
            for some in sample_sums(size):
                refuse(self, InvalidOperation, None, without_letters, some, ZERO)

    def test_rest(self):
        refuse(self, Refused, ("reason", ("rest", (3,))), without_letters, HOOK, ONE - Q)
        refuse(self, Refused, ("reason", ("rest", (1,))), without_letters, unit((1,)), Q + T)
        refuse(self, Refused, ("reason", ("rest", (1,))), without_letters, unit((1,)), Poly.number(2))
        self.assertEqual(without_letters(unit((1,)).times(Q + T), Q + T), unit((1,)))
        refuse(self, Refused, ("reason", ("rest", (6,))), without_letters, unit((2, 2, 2)), (ONE - Q) * (ONE - T))

    def test_first_shape(self):
        later = 0
        for size, number in ((2, 2), (2, 3), (3, 2), (4, 2)):
            shapes = all_shapes(size)
            for told in product((0, 1, 3, -4), repeat=len(shapes)):
                later += self.check_first(number, shapes, told)
        self.assertGreater(later, 0)

    def check_first(self, number, shapes, told):
        pairs = tuple((shape, Q * Poly.number(c)) for shape, c in zip(shapes, told) if c)
        some = Sum(sum(shapes[0]), pairs)
        right = {}
        for shape in shapes:
            right[shape] = Fraction(0)
            for cycles in shapes:
                at = sum(c * trace(other, cycles) for other, c in zip(shapes, told))
                right[shape] += Fraction(trace(shape, cycles) * at, z_of(cycles) * number ** len(cycles))
        failing = [shape for shape in shapes if right[shape].denominator != 1]
        if failing:
            refuse(self, Refused, ("reason", ("rest", failing[0])), without_letters, some, Poly.number(number))
            return 1 if failing[0] != shapes[0] else 0
        made = without_letters(some, Poly.number(number))
        self.assertEqual(made.pairs, tuple((s, Q * Poly.number(int(c))) for s, c in right.items() if c))
        return 0

    def test_later_shape(self):
        # All numbers of the tableau sum in letters times u can be divided by 1 - q. What is left would come
        # of the tableau sum with the number 1 / (1 - q), which is no polynomial, at this one shape.
        for poly in (ONE - Q, (ONE - Q) * (ONE - T), (ONE - Q) * Poly.letter(-3, 1)):
            for size in range(1, 7):
                for shape in all_shapes(size):
                    told = times_letters(unit(shape), poly).pairs
                    some = Sum(size, tuple((other, number.over(ONE - Q)) for other, number in told))
                    refuse(self, Refused, ("reason", ("rest", shape)), without_letters, some, poly)
                    self.assertEqual(without_letters(some.times(ONE - Q), poly), unit(shape))
        made = Sum(2, (((2,), -Q), ((1, 1), ONE)))
        refuse(self, Refused, ("reason", ("rest", (1, 1))), without_letters, made, ONE - Q)


class TestTakenOut(unittest.TestCase):
    def test_pairings(self):
        for size in range(2, 7):
            for some in sample_sums(size)[1:3]:
                for more in range(1, size):
                    for shape in all_shapes(more)[:3]:
                        for kind in KINDS:
                            self.check(some, kind, shape)

    def check(self, some, kind, shape):
        made = taken_out(some, kind, shape)
        self.assertEqual(made.size, some.size - sum(shape))
        for other in all_shapes(made.size):
            taken = Sum.of_kind(kind, shape)
            self.assertEqual(pairing(made, unit(other)), pairing(some, unit(other) * taken))

    def test_known(self):
        self.assertEqual(taken_out(HOOK, "e", (1,)).pairs, (((2,), ONE + Q + T), ((1, 1), Q + T + Q * T)))
        self.assertEqual(taken_out(HOOK, "e", (2,)).pairs, (((1,), Q + T + Q * T),))
        self.assertEqual(taken_out(HOOK, "h", (2,)).pairs, (((1,), ONE + Q + T),))
        self.assertEqual(taken_out(unit((2, 2)), "s", (3,)), Sum(1, ()))

    def test_errors(self):
        for shape in ((3,), (2, 1), (4,), (6,), (1,) * 6):
            refuse(self, InvalidOperation, None, taken_out, HOOK, "s", shape)
        refuse(self, InvalidOperation, None, taken_out, Sum(0, ()), "s", (1,))
        refuse(self, InvalidOperation, None, taken_out, Sum(1, ()), "p", (1,))
        for wrong in NO_SHAPES + ((),):
            refuse(self, InvalidShape, None, taken_out, HOOK, "s", wrong)
            refuse(self, InvalidShape, None, taken_out, Sum(0, ()), "s", wrong)
        for wrong in NO_KINDS:
            refuse(self, UnknownName, ("asked", wrong), taken_out, HOOK, wrong, (1,))
            refuse(self, UnknownName, ("asked", wrong), taken_out, HOOK, wrong, ())


class TestErrors(unittest.TestCase):
    def test_wrong_values(self):
        for call in (times_letters, put_letters, added_letters, without_letters):
            for wrong in NO_TUPLES:
                if not isinstance(wrong, Sum):
                    refuse(self, InvalidSum, None, call, wrong, ONE)
                    refuse(self, InvalidSum, None, call, wrong, None)
                if not isinstance(wrong, Poly):
                    refuse(self, InvalidPoly, None, call, HOOK, wrong)
                    refuse(self, InvalidPoly, None, call, Sum(0, ()), wrong)
        for wrong in NO_TUPLES:
            if not isinstance(wrong, Sum):
                refuse(self, InvalidSum, None, taken_out, wrong, "s", (1,))
                refuse(self, InvalidSum, None, taken_out, wrong, "x", ())


if __name__ == "__main__":
    unittest.main()
