"""Nabla: [11.1] to [11.7]."""

import unittest
from time import process_time

from armlegs.base.polys import Poly
from armlegs.base.shapes import lift, shapes_of
from armlegs.deeds import nabla as nablas
from armlegs.deeds.nabla import elementary_image, grown, nabla, nabla_table
from armlegs.deeds.values import moved, star
from armlegs.errors import InvalidNumber, InvalidOperation, InvalidPoly, InvalidSum
from armlegs.fill.fillings import shape_sum
from armlegs.sums.sums import Sum
from tests.helpers import HOOK, NO_INTEGERS, NO_TUPLES, ONE, Q, T, ZERO, all_shapes, refuse, sample_sums
from tests.test_triangles import EMPTY, NO_SUMS

SIZES = range(1, 6)
FIRST = Sum.of_kind("e", (1,))
GREAT = tuple(Sum.of_kind("s", shape) for shape in shapes_of(6)) + (Sum(6, ()), shape_sum((3, 2, 1)))
NO_POLYS = tuple(wrong for wrong in NO_TUPLES if not isinstance(wrong, Poly)) + (((1, 0, 1),), [ONE], (), 0)
LONG = Poly.number(10 ** 59) * Poly.number(10 ** 59)


def unit(shape):
    return Sum(sum(shape), ((shape, ONE),))


class TestNabla(unittest.TestCase):
    def test_constants(self):
        self.assertEqual((nablas.MOST_NABLA, nablas.MOST_TIMES), (5, 2))

    def test_shape_sums(self):
        for size in SIZES:
            for shape in shapes_of(size):
                made = shape_sum(shape)
                for many in (-2, -1, 0, 1, 2) if size < 5 else (1, -2):
                    raised = ONE
                    for _ in range(abs(many)):
                        raised = raised * (lift(shape) if many > 0 else lift(shape).inverted())
                    self.assertEqual(nabla(made, many=many), made.times(raised))
                self.assertEqual(nabla(made), made.times(lift(shape)))

    def test_sums_and_products(self):
        for size in range(5):
            told = sample_sums(size)
            for f in told[1:3]:
                for g in told[1:]:
                    self.assertEqual(nabla(f + g), nabla(f) + nabla(g))
                for poly in (Q - T, Poly.letter(-2, 1), ZERO, LONG):
                    self.assertEqual(nabla(f.times(poly)), nabla(f).times(poly))

    def test_times(self):
        for size in range(6):
            for f in sample_sums(size)[:3]:
                self.assertEqual(nabla(f, many=0), f)
                self.assertEqual(nabla(f, many=1), nabla(f))
                self.assertEqual(nabla(f, many=2), nabla(nabla(f)))
                self.assertEqual(nabla(f, many=-2), nabla(nabla(f, many=-1), many=-1))
                self.assertEqual(nabla(nabla(f), many=-1), f)
                self.assertEqual(nabla(nabla(f, many=-1)), f)
                self.assertEqual(nabla(f).size, size)

    def test_small_sizes(self):
        self.assertEqual(nabla(EMPTY), EMPTY)
        self.assertEqual(nabla(Sum(0, ()), many=-2), Sum(0, ()))
        self.assertEqual(nabla(EMPTY.times(Q - T), many=-1), EMPTY.times(Q - T))
        self.assertEqual(nabla(FIRST.times(Q)), FIRST.times(Q))
        self.assertEqual(nabla(unit((1, 1))).pairs, (((2,), ONE), ((1, 1), Q + T)))
        self.assertEqual(nabla(unit((2,))).pairs, (((1, 1), -Q * T),))

    def test_steps(self):
        for size in range(6):
            for f in sample_sums(size)[1:3]:
                self.assertEqual(nabla(moved(f, 0)), moved(nabla(f), 0))
                if size < 5:
                    self.assertEqual(nabla(FIRST * f), -moved(nabla(f), 1))

    def test_inverted_and_traded(self):
        for size in range(6):
            for f in sample_sums(size)[1:]:
                left = nabla(f.with_inverted().turned())
                self.assertEqual(left, nabla(f, many=-1).with_inverted().turned())
                self.assertEqual(nabla(f.with_traded()), nabla(f).with_traded())

    def test_errors(self):
        for wrong in NO_SUMS + GREAT:
            refuse(self, InvalidSum, None, nabla, wrong)
            refuse(self, InvalidSum, None, nabla, wrong, many=3)
        for wrong in NO_INTEGERS + (-3, 3, 10):
            refuse(self, InvalidNumber, ("given", wrong), nabla, HOOK, many=wrong)
            refuse(self, InvalidNumber, ("given", wrong), nabla, EMPTY, many=wrong)
        self.assertRaises(TypeError, nabla, HOOK, 1)

    def test_not_true(self):
        self.assertEqual(nabla(unit((2,))), unit((1, 1)).times(-Q * T))
        self.assertNotEqual(nabla(FIRST * FIRST), nabla(FIRST) * nabla(FIRST))
        self.assertEqual(nabla(unit((2,))).number_at("s", (2,)), ZERO)


class TestImages(unittest.TestCase):
    def test_elementary_image(self):
        for size in SIZES:
            made = elementary_image(size)
            self.assertEqual(made, nabla(Sum.of_kind("e", (size,))))
            self.assertTrue(all(number.is_positive() for _, number in made.pairs))
            self.assertEqual(made.with_traded(), made)
        self.assertEqual(elementary_image(1), FIRST)
        self.assertEqual(elementary_image(3).pairs, (
            ((3,), ONE), ((2, 1), Q + T + Q * Q + Q * T + T * T),
            ((1, 1, 1), Q * T + Q * Q * Q + Q * Q * T + Q * T * T + T * T * T)))
        self.assertEqual(elementary_image(5).number_at("h", (1,) * 5).at(1, 1), (6 ** 4, 1))

    def test_table(self):
        for size in SIZES:
            made = nabla_table(size)
            self.assertIsInstance(made, tuple)
            self.assertEqual(made, tuple(nabla(unit(shape)) for shape in all_shapes(size)))
            for some in made:
                for _, number in some.pairs:
                    self.assertTrue(number.is_positive() or (-number).is_positive())
                    self.assertTrue(all(0 <= i <= 10 and 0 <= j <= 10 for i, j, _ in number.rows))
        self.assertEqual(nabla_table(1), (FIRST,))

    def test_errors(self):
        for call in (elementary_image, nabla_table):
            for wrong in NO_INTEGERS + (0, 6, -1):
                refuse(self, InvalidNumber, ("given", wrong), call, wrong)


class TestGrown(unittest.TestCase):
    def test_shape_sums(self):
        poly = Poly(((-2, 0, 3), (-1, 0, -1), (0, 0, 2), (1, 0, 5), (2, 0, -4)))
        for size in range(1, 5):
            for shape in shapes_of(size):
                made = shape_sum(shape)
                up, down = lift(shape), lift(shape).inverted()
                number = (down * down * Poly.number(3) - down + Poly.number(2) + up * Poly.number(5)
                          - up * up * Poly.number(4))
                self.assertEqual(grown(made, poly), made.times(number))

    def test_rows(self):
        for size in range(6):
            for f in sample_sums(size)[:3]:
                for many in (-2, -1, 0, 1, 2):
                    self.assertEqual(grown(f, Poly.letter(many, 0)), nabla(f, many=many))
                self.assertEqual(grown(f, ZERO), Sum(size, ()))
                self.assertEqual(grown(f, Poly.number(-7)), f.times(Poly.number(-7)))
        self.assertEqual(grown(HOOK, LONG), HOOK.times(LONG))
        self.assertEqual(grown(HOOK, LONG * Q), HOOK.times(LONG * Q * T))

    def test_products(self):
        polys = (ONE - Q, Poly.letter(-1, 0) + Poly.number(2), Q + Poly.letter(-1, 0))
        for size in range(5):
            f = sample_sums(size)[1]
            for one in polys:
                for other in polys:
                    self.assertEqual(grown(grown(f, one), other), grown(f, one * other))

    def test_errors(self):
        for wrong in NO_SUMS + GREAT:
            refuse(self, InvalidSum, None, grown, wrong, ONE)
            refuse(self, InvalidSum, None, grown, wrong, None)
            refuse(self, InvalidSum, None, grown, wrong, T)
        for wrong in NO_POLYS:
            refuse(self, InvalidPoly, None, grown, HOOK, wrong)
        for wrong in (T, Q * T, Q + T, Poly.letter(3, 0), Poly.letter(-3, 0), ONE + Poly.letter(0, -1), Q.power(4)):
            refuse(self, InvalidOperation, None, grown, HOOK, wrong)
            refuse(self, InvalidOperation, None, grown, EMPTY, wrong)
            refuse(self, InvalidOperation, None, grown, Sum(3, ()), wrong)


class TestManyCalls(unittest.TestCase):
    """Nabla is quick, and it is what the numbers at the sums of shapes ask."""

    def calls(self):
        polys = (ONE, Q - T, ONE - Q * T + Poly.letter(-1, 2), Poly.number(10 ** 59 + 7) * Q - T - T)
        shapes = shapes_of(5)
        return [
            (unit(shapes[k % 7]).times(polys[k % 4]), k % 5 - 2)
            for k in range(100)
        ]

    def test_time(self):
        calls = self.calls()
        self.assertEqual({many for _, many in calls}, {-2, -1, 0, 1, 2})
        self.assertEqual(len({some.pairs[0][0] for some, _ in calls}), 7)
        start = process_time()
        for some, many in calls:
            nabla(some, many=many)
        self.assertLess(process_time() - start, 2)
        start = process_time()
        for _ in range(100):
            elementary_image(5)
            nabla_table(5)
            grown(unit((2, 2, 1)), Q + ONE)
            nabla(Sum(5, ()))
        self.assertLess(process_time() - start, 2)

    def test_asked(self):
        # Sums of shapes are apart from one another, so star pairings with them tell the numbers at them.
        sums = [(shape_sum(shape), lift(shape)) for shape in shapes_of(5)]
        for some, many in self.calls()[::3]:
            made = nabla(some, many=many)
            for whole, raised in sums:
                right = star(some, whole)
                for _ in range(abs(many)):
                    right = right * (raised if many > 0 else raised.inverted())
                self.assertEqual(star(made, whole), right)

    def test_all_images(self):
        for size in SIZES:
            for shape, made in zip(shapes_of(size), nabla_table(size)):
                for other in shapes_of(size):
                    self.assertEqual(star(made, shape_sum(other)), star(unit(shape), shape_sum(other)) * lift(other))


if __name__ == "__main__":
    unittest.main()
