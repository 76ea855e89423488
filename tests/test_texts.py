"""Texts of shapes, polynomials and sums: [18.1] to [18.3], [18.6]."""

import unittest

from armlegs.base.digits import written_integer
from armlegs.base.polys import Poly
from armlegs.errors import InvalidPoly, InvalidShape, InvalidSum, ParseError, TooMany
from armlegs.fill.fillings import shape_sum
from armlegs.sums.sums import Sum
from armlegs.text import texts
from armlegs.text.texts import read_poly, read_shape, read_sum, write_poly, write_shape, write_sum
from tests.helpers import HOOK, NO_TUPLES, ONE, Q, T, ZERO, refuse, sample_sums
from tests.test_shapes import EVERY, NO_SHAPES
from tests.test_triangles import NO_SUMS

NO_TEXTS = tuple(wrong for wrong in NO_TUPLES if not isinstance(wrong, str)) + ((), "1" * 20001, ["1"], "q" * 20001)
NO_POLYS = tuple(wrong for wrong in NO_TUPLES if not isinstance(wrong, Poly)) + ((), 0, "1+q", ((0, 0, 1),), HOOK)
NINES = 10 ** 60 - 1
POLYS = (
    (ZERO, "0"), (ONE, "1"), (-ONE, "-1"), (Q, "q"), (-Q, "-q"), (T, "t"), (Q * T, "qt"), (-Q * T, "-qt"),
    (Q + Q, "2q"), (ONE + Q + Q - Q.power(3).shifted(0, -2), "1+2q-q3t(-2)"), (Poly.letter(-1, 0), "q(-1)"),
    (Poly.letter(-200, 200), "q(-200)t200"), (Poly.letter(200, -200), "q200t(-200)"), (Poly.letter(0, 2), "t2"),
    (Q - Poly.letter(0, -1), "-t(-1)+q"), (Poly.number(NINES), "9" * 60), (Poly.number(-NINES), "-" + "9" * 60),
    (Q * Poly.number(-NINES) - ONE, "-1-" + "9" * 60 + "q"), (Poly(((-1, -1, -12), (-1, 0, 10), (3, 1, -1))),
                                                           "-12q(-1)t(-1)+10q(-1)-q3t"),
    (Poly.number(10), "10"), (T + T - T.power(10), "2t-t10"), (ONE - T, "1-t"),
)
LONGEST = Poly(tuple((i, j, 1) for i in range(20) for j in range(20)))


class TestShapes(unittest.TestCase):
    def test_constant(self):
        self.assertEqual(texts.MAX_TEXT, 20000)

    def test_write(self):
        for shape in EVERY:
            text = write_shape(shape)
            self.assertEqual(text, str(shape).replace(" ", "").strip("(),"))
            self.assertEqual(read_shape(text), shape)
        self.assertEqual(write_shape((1, 1, 1, 1, 1, 1)), "1,1,1,1,1,1")
        for wrong in NO_SHAPES:
            refuse(self, InvalidShape, None, write_shape, wrong)

    def test_read_errors(self):
        for wrong in NO_TEXTS:
            for call in (read_shape, read_poly, read_sum):
                refuse(self, ParseError, ("spot", None), call, wrong)
        for text, spot in (
            ("", 0), ("0", 0), ("7", 0), ("a", 0), (" 1", 0), ("1 ", 0), ("01", 0), ("+1", 0), ("-1", 0), ("10", 0),
            ("-", 0), ("()", 0), (",", 0), ("1,", 2), ("2,,1", 2), ("2,1,", 4), ("1,2", 2), ("3,1,2", 4), ("2,0", 2),
            ("2,01", 2), ("2, 1", 2), ("3,3,1", 4), ("4,3", 2), ("6,1", 2), ("1,1,1,1,1,1,1", 12), ("2.1", 0),
            ("2,1\n", 2), ("1" * 20000, 0), ("2,1;1", 2), ("12,x", 0), ("2,x,3", 2), ("5,2,9", 2), ("\u0661", 0),
        ):
            refuse(self, ParseError, ("spot", spot), read_shape, text)


class TestPolys(unittest.TestCase):
    def test_known(self):
        for poly, text in POLYS:
            self.assertEqual(write_poly(poly), text)
            self.assertEqual(read_poly(text), poly)

    def test_there_and_back(self):
        polys = [number for size in range(7) for some in sample_sums(size) for _, number in some.pairs]
        polys += [number for shape in EVERY for _, number in shape_sum(shape).pairs]
        polys += [LONGEST, (Q - T).power(20), (Q + T - ONE).power(20), (ONE - Poly.letter(-3, 2)).power(20)]
        for poly in polys:
            self.assertEqual(read_poly(write_poly(poly)), poly)

    def test_beyond(self):
        # Polynomials that the package makes can have more; they are written, but not read.
        for poly, text in (
            (Poly.number(NINES) * Poly.number(10), "9" * 60 + "0"), (Poly.letter(200, 0) * Q, "q201"),
            (Poly.letter(0, -200) * Poly.letter(0, -200), "t(-400)"),
        ):
            self.assertEqual(write_poly(poly), text)
            refuse(self, ParseError, ("spot", 0), read_poly, text)
        more = LONGEST + Poly.letter(20, 0)
        refuse(self, ParseError, ("spot", len(write_poly(LONGEST))), read_poly, write_poly(more))

    def test_long(self):
        made = ONE
        for _ in range(100):
            made = made * Poly.number(10 ** 59)
        self.assertEqual(write_poly(made), "1" + "0" * 5900)
        self.assertEqual(write_poly(-made * Q), "-1" + "0" * 5900 + "q")
        long = made * made * made
        self.assertEqual(len(write_poly(long)), 17701)
        for _ in range(39 - 1):
            long = long * Poly.number(10 ** 59)
        exact = long * Poly.number(10 ** (19999 - len(write_poly(long)) + 1))
        self.assertEqual(len(write_poly(exact)), 20000)
        for more in (exact * Poly.number(10), -exact, exact * Q, exact + Q, made.power(20), made.power(20) * T + Q):
            refuse(self, TooMany, ("limit", 20000), write_poly, more)
        for number in (0, 1, -1, 10 ** 499, 10 ** 500 - 1, 10 ** 500, -(10 ** 500), 10 ** 1000 + 7, 12 * 10 ** 999):
            self.assertEqual(written_integer(number), str(number))

    def test_write_errors(self):
        for wrong in NO_POLYS:
            refuse(self, InvalidPoly, None, write_poly, wrong)

    def test_read_errors(self):
        for text, spot in (
            ("", 0), ("00", 0), ("+q", 0), ("+1", 0), ("-0", 0), ("0+q", 0), ("0q", 0), ("q+0", 1), ("q-0t", 1),
            ("01", 0), ("1q", 0), ("-1q", 0), ("q+1t", 1), ("q1", 0), ("q0", 0), ("q02", 0), ("q(2)", 0), ("q(-0)", 0),
            ("q(-02)", 0), ("q-2", 1), ("q(-2", 0), ("q-2)", 1), ("q)-t", 0), ("q((-2))", 0), ("1+q((-2)-t", 1),
            ("tq", 0), ("qq", 0), ("q2q3", 0), ("t2t", 0), ("qt-t", 2), ("q+t", 1), ("1+1", 1), ("2+1", 1), ("q-q", 1),
            ("1+q+q2+q", 6), ("--1", 0), ("1--q", 1), ("1-", 1), ("1+", 1), ("1+-q", 1), ("1 + q", 0), (" 1", 0),
            ("1 ", 0), ("q^2", 0), ("q**2", 0), ("2*q", 0), ("Q", 0), ("x", 0), ("q201", 0), ("t(-201)", 0), ("1+t201", 1),
            ("9" * 61, 0), ("q-" + "9" * 61 + "q2", 1), ("1\n", 0), ("q()", 0), ("q(-)", 0), ("q(+2)", 0), ("(q)", 0),
            ("(1+q)", 0), ("1+(q)", 1), ("q(-1)(-1)", 0), ("2", None), ("q(-1)q", 0), ("1" * 20000, 0), ("\u0661", 0),
            ("+", 0), ("-", 0), ("q" + "9" * 19999, 0), ("1,0,1", 0), ("q-t+x", 1), ("t+q+x+q", 3),
        ):
            if spot is None:
                self.assertEqual(read_poly(text), Poly.number(int(text)))
            else:
                refuse(self, ParseError, ("spot", spot), read_poly, text)
        text = write_poly(LONGEST)
        self.assertEqual(len(read_poly(text)), 400)
        refuse(self, ParseError, ("spot", len(text)), read_poly, text + "+q20")
        refuse(self, ParseError, ("spot", len(text)), read_poly, text + "+q20+q21")


class TestSums(unittest.TestCase):
    def test_known(self):
        self.assertEqual(write_sum(HOOK), "sum 3\n3 1\n2,1 t+q\n1,1,1 qt\n")
        self.assertEqual(write_sum(Sum(4, ())), "sum 4\n")
        self.assertEqual(write_sum(Sum(0, (((), -Q),))), "sum 0\n- -q\n")
        self.assertEqual(write_sum(Sum(0, ())), "sum 0\n")

    def test_there_and_back(self):
        for some in [shape_sum(shape) for shape in EVERY] + [some for size in range(7) for some in sample_sums(size)]:
            self.assertEqual(read_sum(write_sum(some)), some)

    def test_write_errors(self):
        for wrong in NO_SUMS:
            refuse(self, InvalidSum, None, write_sum, wrong)
        one = Sum.of_kind("s", (1,))
        digits = one
        for _ in range(100):
            digits = digits.times(Poly.number(10 ** 59))
        self.assertEqual(len(write_sum(digits)), 5910)
        again = digits
        for _ in range(3):
            again = again.times(digits.number_at("s", (1,)))
        refuse(self, TooMany, ("limit", 20000), write_sum, again)
        # The lines with sizes and shapes count, too: "sum 1", "1 " and two newlines are nine signs.
        long = digits.times(digits.number_at("s", (1,))).times(digits.number_at("s", (1,)))
        while len(write_sum(long)) < 20000 - 59:
            long = long.times(Poly.number(10 ** 59))
        exact = long.times(Poly.number(10 ** (20000 - len(write_sum(long)))))
        self.assertEqual(len(write_sum(exact)), 20000)
        refuse(self, TooMany, ("limit", 20000), write_sum, exact.times(Poly.number(10)))

    def test_read_errors(self):
        for text, spot in (
            ("", 0), ("\n", 0), ("sum 3", 0), ("sum", 0), ("sum\n", 0), ("sum 7\n", 0), ("sum -1\n", 0), ("sum 03\n", 0),
            ("sum 3 \n", 0), ("Sum 3\n", 0), (" sum 3\n", 0), ("sum  3\n", 0), ("sum x\n", 0), ("3 1\n", 0),
            ("sum 3\n\n", 1), ("sum 3\n3 1", 1), ("sum 3\n3 0\n", 1), ("sum 3\n3\n", 1), ("sum 3\n3 \n", 1),
            ("sum 3\n3  1\n", 1), ("sum 3\n 3 1\n", 1), ("sum 3\n3 1 \n", 1), ("sum 3\n2 1\n", 1), ("sum 3\n1,2 1\n", 1),
            ("sum 3\n- 1\n", 1), ("sum 0\n 1\n", 1), ("sum 0\n() 1\n", 1), ("sum 0\n- 1\n- 1\n", 2),
            ("sum 3\n2,1 t\n3 1\n", 2), ("sum 3\n3 1\n3 1\n", 2), ("sum 3\n3 1\n2,1 q+t\n", 2), ("sum 3\n3 1\n2,1 t", 2),
            ("sum 3\n3 1\n\n2,1 t\n", 2), ("sum 3\n3 1\n2,1 t\nx", 3), ("sum 3\r\n3 1\n", 0), ("sum 3\n3 1\nsum 3\n", 2),
            ("sum 3\n3 " + "1" * 61 + "\n", 1), ("sum 3\n3 1\n1,1,1 q201\n", 2), ("x" * 20000, 0),
        ):
            refuse(self, ParseError, ("spot", spot), read_sum, text)
        self.assertEqual(read_sum("sum 3\n3 1\n2,1 t+q\n1,1,1 qt\n"), HOOK)


if __name__ == "__main__":
    unittest.main()
