"""Polynomials: [1.1] to [1.3]."""

import unittest

from armlegs.base import polys
from armlegs.base.polys import Poly
from armlegs.errors import InvalidNumber, InvalidOperation, InvalidPoly, Refused
from tests.helpers import HOOK, NO_INTEGERS, NO_TUPLES, ONE, Q, T, ZERO, refuse, value

SAMPLES = (
    ZERO, ONE, -ONE, Q, T, Q + T, Q - T, Poly.number(6), Poly.number(-4), Poly.letter(-3, 2),
    Poly(((-2, 1, 3), (-2, 4, -1), (0, -5, 2), (1, 0, -7))),
    Poly(((0, 0, 1), (0, 1, 1), (1, 0, 1))),
    Poly(((-1, -1, -2), (0, 0, 4), (3, -2, 6))),
    Poly(((-1, 0, 10 ** 60 - 1), (2, 2, -(10 ** 60) + 1))),
    ONE - Q, ONE + Q + Q * Q, ONE - Q * T + T * T,
)


def table_of(poly):
    return {(i, j): c for i, j, c in poly.rows}


def rows_of(table):
    return tuple((i, j, c) for (i, j), c in sorted(table.items()) if c != 0)


def plain_sum(one, other, sign):
    made = table_of(one)
    for place, c in table_of(other).items():
        made[place] = made.get(place, 0) + sign * c
    return rows_of(made)


def plain_product(one, other):
    made = {}
    for (i, j), c in table_of(one).items():
        for (k, m), d in table_of(other).items():
            made[(i + k, j + m)] = made.get((i + k, j + m), 0) + c * d
    return rows_of(made)


class TestRows(unittest.TestCase):
    def test_constants(self):
        self.assertEqual((polys.MOST_ROWS, polys.MOST_POWER, polys.MAX_POWER), (400, 200, 20))

    def test_rows_as_told(self):
        rows = ((-200, 200, 10 ** 60 - 1), (0, -200, -(10 ** 60) + 1), (0, 1, 1), (200, 0, -1))
        self.assertEqual(Poly(rows).rows, rows)
        self.assertEqual(Poly(()).rows, ())
        self.assertIsInstance(Poly(rows).rows, tuple)

    def test_made_in_unlike_ways(self):
        self.assertEqual((Q + T + Q).rows, ((0, 1, 1), (1, 0, 2)))
        self.assertEqual((Q * T - T * Q).rows, ())
        self.assertEqual((ONE - ONE).rows, ())
        self.assertEqual((Q + T) * (Q + T), Q * Q + Q * T + Q * T + T * T)
        self.assertEqual((Q - T) * (Q + T), Poly(((0, 2, -1), (2, 0, 1))))
        self.assertEqual((Q + T).power(3) - (Q + T).power(2) * Q, T * (T + Q) * (T + Q))
        self.assertEqual(Poly.letter(-1, 0) * Q, ONE)
        self.assertEqual((T + Q).rows, (Q + T).rows)

    def test_most_rows(self):
        rows = tuple((0, j, 1) for j in range(-200, 200))
        self.assertEqual(len(Poly(rows)), 400)
        refuse(self, InvalidPoly, None, Poly, rows + ((0, 200, 1),))

    def test_bounds_of_powers(self):
        for i, j in ((-200, 0), (200, 0), (0, -200), (0, 200), (-200, 200)):
            self.assertEqual(Poly(((i, j, 1),)).rows, ((i, j, 1),))
        for i, j in ((-201, 0), (201, 0), (0, -201), (0, 201)):
            refuse(self, InvalidPoly, None, Poly, ((i, j, 1),))

    def test_wrong_rows(self):
        for given in NO_TUPLES + ([(0, 0, 1)], ([0, 0, 1],), ((0, 0, 1), [0, 1, 1]), {(0, 0, 1): 1}):
            refuse(self, InvalidPoly, None, Poly, given)
        for given in (
            ((0, 0, 0),), ((0, 0),), ((0, 0, 1, 1),), ((0, 1, 1), (0, 0, 1)), ((0, 0, 1), (0, 0, 1)),
            ((0, 0, 1), (0, 0, 2)), ((1, 0, 1), (0, 5, 1)), ((0, 0, 1), (0, 1, 0)), (0, 0, 1), ((),),
        ):
            refuse(self, InvalidPoly, None, Poly, given)

    def test_wrong_members(self):
        for wrong in NO_INTEGERS:
            refuse(self, InvalidPoly, None, Poly, ((wrong, 0, 1),))
            refuse(self, InvalidPoly, None, Poly, ((0, wrong, 1),))
            refuse(self, InvalidPoly, None, Poly, ((0, 0, wrong),))
            refuse(self, InvalidPoly, None, Poly, ((-1, -1, 1), (0, 0, wrong)))

    def test_passed_on_beyond_the_bounds(self):
        long = Poly.letter(200, 200).power(20) * Poly.number(10 ** 59).power(3)
        self.assertEqual(long.rows, ((4000, 4000, 10 ** 177),))
        self.assertEqual((long + ONE).rows, ((0, 0, 1), (4000, 4000, 10 ** 177)))
        self.assertEqual((long * Q).over(long), Q)
        refuse(self, InvalidPoly, None, Poly, long.rows)
        many = Poly(tuple((i, 0, 1) for i in range(21))) * Poly(tuple((0, j, 1) for j in range(21)))
        self.assertEqual(len(many), 441)
        self.assertEqual(len(many + many), 441)
        refuse(self, InvalidPoly, None, Poly, many.rows)

    def test_equality(self):
        for k, one in enumerate(SAMPLES):
            for m, other in enumerate(SAMPLES):
                self.assertIs(one == other, k == m)
                self.assertIs(one != other, k != m)
            self.assertEqual(one, one + ZERO)
            for other in NO_TUPLES + (one.rows, str(one), None):
                if not isinstance(other, Poly):
                    self.assertIs(one == other, False)
                    self.assertIs(one != other, True)
                    self.assertIs(other == one, False)
        self.assertIn(Q + T, [ONE, T + Q])
        self.assertNotIn(Q, [1, (1, 0, 1), HOOK])

    def test_number(self):
        for c in (0, 1, -1, 12, 10 ** 60 - 1, -(10 ** 60) + 1):
            self.assertEqual(Poly.number(c).rows, ((0, 0, c),) if c else ())
        for wrong in NO_INTEGERS:
            refuse(self, InvalidNumber, ("given", wrong), Poly.number, wrong)

    def test_letter(self):
        for i, j in ((0, 0), (1, 0), (0, 1), (-200, 200), (200, -200), (3, -4)):
            self.assertEqual(Poly.letter(i, j).rows, ((i, j, 1),))
            self.assertEqual((Q + ONE).shifted(i, j).rows, ((i, j, 1), (i + 1, j, 1)))
        for call in (Poly.letter, (Q + T).shifted):
            for wrong in NO_INTEGERS + (-201, 201):
                refuse(self, InvalidNumber, ("given", wrong), call, wrong, 0)
                refuse(self, InvalidNumber, ("given", wrong), call, 0, wrong)
                refuse(self, InvalidNumber, ("given", wrong), call, wrong, 201)
                refuse(self, InvalidNumber, ("given", 201), call, 201, wrong)

    def test_len_str_is_positive(self):
        self.assertEqual([len(poly) for poly in SAMPLES[:6]], [0, 1, 1, 1, 1, 2])
        self.assertEqual(str(ZERO), "poly of 0 rows")
        self.assertEqual(str(Q), "poly of 1 rows")
        self.assertEqual(str(SAMPLES[11]), "poly of 3 rows")
        self.assertIs(ZERO.is_positive(), True)
        self.assertIs((Q + T).is_positive(), True)
        self.assertIs((Q - T).is_positive(), False)
        self.assertIs((-ONE).is_positive(), False)
        self.assertIs((T - Q.power(2) + Q.power(3)).is_positive(), False)
        self.assertIs(Poly.letter(-1, -1).is_positive(), True)

    def test_not_iterated(self):
        for call in (iter, list, tuple, sorted, set):
            self.assertRaises(TypeError, call, Q + T)
        self.assertRaises(TypeError, lambda: 1 in Q)
        self.assertRaises(TypeError, lambda: Q[0])

    def test_never_changes(self):
        one = Poly(((0, 1, 1), (1, 0, -2)))
        other = Poly(((-1, 0, 3), (0, 0, 1)))
        for _ in range(2):
            self.assertEqual((one * other).over(other), one)
            results = (one + other, one - other, -one, one.power(3), one.shifted(2, 2), one.traded(), one.inverted(),
                       one.stretched(2), one.at(2, 3), one.is_positive(), len(one), str(one))
            self.assertEqual(len(results), 12)
            self.assertRaises(Refused, one.over, other)
            self.assertRaises(InvalidNumber, one.power, 21)
            self.assertRaises(InvalidNumber, one.shifted, 1, 201)
            self.assertEqual(one.rows, ((0, 1, 1), (1, 0, -2)))
            self.assertEqual(other.rows, ((-1, 0, 3), (0, 0, 1)))
        with self.assertRaises(AttributeError):
            one.rows = ()


class TestArithmetic(unittest.TestCase):
    def test_sums_and_products(self):
        for one in SAMPLES:
            self.assertEqual((-one).rows, tuple((i, j, -c) for i, j, c in one.rows))
            for other in SAMPLES:
                self.assertEqual((one + other).rows, plain_sum(one, other, 1))
                self.assertEqual((one - other).rows, plain_sum(one, other, -1))
                self.assertEqual((one * other).rows, plain_product(one, other))
                self.assertEqual(one * other == ZERO, one == ZERO or other == ZERO)

    def test_rules(self):
        for a in SAMPLES:
            for b in SAMPLES[3:14:2]:
                for c in SAMPLES[1::3]:
                    self.assertEqual((a + b) * c, a * c + b * c)
                    self.assertEqual((a * b) * c, a * (b * c))
                    self.assertEqual((a + b) + c, a + (b + c))
                    self.assertEqual(a - b - c, a - (b + c))

    def test_other_kinds(self):
        for other in (1, 0, True, None, "a", (), ((0, 0, 1),), [1], {}, HOOK):
            self.assertRaises(TypeError, lambda: Q + other)
            self.assertRaises(TypeError, lambda: other + Q)
            self.assertRaises(TypeError, lambda: Q - other)
            self.assertRaises(TypeError, lambda: other - Q)
            self.assertRaises(TypeError, lambda: Q * other)
            self.assertRaises(TypeError, lambda: other * Q)

    def test_power(self):
        for one in SAMPLES[:13]:
            made = ONE
            for many in range(5):
                self.assertEqual(one.power(many), made)
                made = made * one
        self.assertEqual(ZERO.power(0), ONE)
        self.assertEqual((ONE + Q).power(20).rows[10], (10, 0, 184756))
        self.assertEqual(Q.power(20).rows, ((20, 0, 1),))
        for wrong in NO_INTEGERS + (-1, 21):
            refuse(self, InvalidNumber, ("given", wrong), Q.power, wrong)

    def test_shifted(self):
        for one in SAMPLES:
            for i, j in ((0, 0), (3, -2), (-200, 200)):
                self.assertEqual(one.shifted(i, j), one * Poly.letter(i, j))

    def test_traded_inverted_stretched(self):
        for one in SAMPLES:
            table = table_of(one)
            self.assertEqual(one.traded().rows, rows_of({(j, i): c for (i, j), c in table.items()}))
            self.assertEqual(one.inverted().rows, rows_of({(-i, -j): c for (i, j), c in table.items()}))
            self.assertEqual(one.traded().traded(), one)
            self.assertEqual(one.inverted().inverted(), one)
            for many in (1, 2, 3, 20):
                self.assertEqual(one.stretched(many).rows,
                                 rows_of({(i * many, j * many): c for (i, j), c in table.items()}))
            for other in SAMPLES:
                self.assertEqual((one * other).traded(), one.traded() * other.traded())
                self.assertEqual((one + other).inverted(), one.inverted() + other.inverted())
                self.assertEqual((one * other).inverted(), one.inverted() * other.inverted())
                self.assertEqual((one * other).stretched(3), one.stretched(3) * other.stretched(3))
                self.assertEqual((one + other).stretched(2), one.stretched(2) + other.stretched(2))
        for wrong in NO_INTEGERS + (0, -1, 21):
            refuse(self, InvalidNumber, ("given", wrong), Q.stretched, wrong)


class TestOver(unittest.TestCase):
    def test_quotients(self):
        for one in SAMPLES:
            for other in SAMPLES:
                if other != ZERO:
                    self.assertEqual((one * other).over(other), one)
        for one in ((Q + T).power(9), (ONE - Q * T + Poly.letter(-2, 3)).power(6)):
            self.assertEqual((one * (Q - T)).over(one), Q - T)
            self.assertEqual((one * (Q - T)).over(Q - T), one)

    def test_known_quotients(self):
        self.assertEqual((ONE - Q.power(6)).over(ONE - Q).rows, tuple((i, 0, 1) for i in range(6)))
        self.assertEqual((Q.power(3) - T.power(3)).over(Q - T), Q * Q + Q * T + T * T)
        self.assertEqual(Poly.number(6).over(Poly.number(-4) + Poly.number(1)), Poly.number(-2))
        self.assertEqual(ONE.over(Q * T).rows, ((-1, -1, 1),))
        self.assertEqual(ZERO.over(Q + T), ZERO)

    def test_none(self):
        pairs = (
            (Q + T, Q - T), (ONE, Poly.number(2)), (ONE, ONE + Q), (ONE, ONE + T), (Q, Q - T.power(3)),
            (Q.power(5), Q - T.power(3)), (T.power(5), T - Q.power(3)), (ONE, ONE - Q), (ONE, ONE - T),
            (Poly.number(2) * Q + Poly.number(3), Poly.number(2)), (Q * Q - T * T + ONE, Q - T),
            (Poly.letter(-1, 0) + ONE, Poly.letter(-1, 0) - ONE), (ONE + Q * Q, ONE + Q),
            (Q + T, Poly.number(2) * (Q + T)), (Poly.number(3), Poly.number(2)), (ONE + Q, ONE + Q * Q),
            (ONE + T, ONE + T * T), (ONE + Q * T, ONE + Q), (Q * Q + T, Q + T),
            (ONE - Q.power(7) * T, (ONE - Q) * (ONE - T)), (Poly.letter(200, 0).power(2) + Poly.number(2), Q - ONE),
        )
        for one, other in pairs:
            refuse(self, Refused, ("reason", ("rest",)), one.over, other)
            refuse(self, Refused, ("reason", ("rest",)), (one * (Q + T * T)).over, other * (Q + T * T))
        for one in SAMPLES:
            for other in SAMPLES:
                if other != ZERO:
                    self.check_by_values(one, other)

    def check_by_values(self, one, other):
        try:
            made = one.over(other)
        except Refused:
            self.assertNotIn(one.rows, [(part * other).rows for part in SAMPLES])
        else:
            self.assertEqual(made * other, one)

    def test_errors(self):
        for wrong in NO_TUPLES:
            if not isinstance(wrong, Poly):
                refuse(self, InvalidPoly, None, Q.over, wrong)
                refuse(self, InvalidPoly, None, ZERO.over, wrong)
        for one in SAMPLES:
            refuse(self, InvalidOperation, None, one.over, ZERO)


class TestValues(unittest.TestCase):
    def test_at(self):
        for one in SAMPLES:
            for q in (-1000, -3, -1, 1, 2, 6, 1000):
                for t in (-1000, -2, -1, 1, 4, 9, 1000):
                    right = value(one, q, t)
                    self.assertEqual(one.at(q, t), (right.numerator, right.denominator))

    def test_lowest_terms(self):
        self.assertEqual(Poly.letter(-1, 0).at(-2, 1), (-1, 2))
        self.assertEqual(Poly.letter(0, -3).at(1, -2), (-1, 8))
        self.assertEqual((Q * Poly.letter(0, -1)).at(4, 6), (2, 3))
        self.assertEqual((Q - T).at(5, 5), (0, 1))
        self.assertEqual((Poly.letter(-1, 0) - Poly.letter(0, -1)).at(-5, -5), (0, 1))
        self.assertEqual(ZERO.at(7, -7), (0, 1))

    def test_errors(self):
        for one in (ZERO, Q + T):
            for wrong in NO_INTEGERS + (0, 1001, -1001):
                refuse(self, InvalidNumber, ("given", wrong), one.at, wrong, 1)
                refuse(self, InvalidNumber, ("given", wrong), one.at, 1, wrong)
                refuse(self, InvalidNumber, ("given", wrong), one.at, wrong, 0)
                refuse(self, InvalidNumber, ("given", 0), one.at, 0, wrong)

    def test_not_true(self):
        self.assertEqual(((Q - T).at(1, 1), Q == T), ((0, 1), False))
        one = Q * Q - Q + ONE
        other = Q * Q + Q * Q + Q * Q + Q * Q - Q + ONE + ONE + ONE + ONE
        self.assertEqual((ONE.is_positive(), (-ONE).is_positive(), ((-ONE) * (-ONE)).is_positive()),
                         (True, False, True))
        self.assertEqual((one.is_positive(), other.is_positive()), (False, False))
        four = ONE + Q + Q * Q + Q * Q * Q
        self.assertEqual((len(four), len(ONE - Q), len(four * (ONE - Q))), (4, 2, 2))


if __name__ == "__main__":
    unittest.main()
