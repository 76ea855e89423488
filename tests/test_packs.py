"""Both ways to work out sums and products: packed into integers, and as they are."""

import unittest
from random import Random

from armlegs.base import packs
from armlegs.base.packs import Dense, Sparse, packed, unpacked, way_to_work
from armlegs.base.polys import Poly
from armlegs.deeds.nabla import nabla
from armlegs.deeds.values import moved, star
from armlegs.fill.fillings import shape_sum
from armlegs.fill.triangles import multiple_of, triangle
from armlegs.paths.touching import lead
from armlegs.sums.letters import added_letters, put_letters, times_letters
from armlegs.sums.sums import Sum
from tests.helpers import ONE, Q, T, ZERO, all_shapes, sample_sums

BELOW = Poly.letter(-1, 0)
POLYS = (ONE, -ONE, ONE - Q, Q + T, (ONE - Q) * (ONE - T), Poly.letter(-1, 0) - ONE, Poly.letter(-1, 2) - Q - T - T,
         Poly.number(7) - Poly.letter(0, -2), Poly(((-1, -1, 3), (0, 0, -2), (1, 1, 1))))


def random_poly(random, most):
    powers = sorted({(random.randint(-3, 3), random.randint(-3, 3)) for _ in range(random.randint(1, 6))})
    rows = [(i, j, random.choice((-1, 1)) * random.randint(1, most)) for i, j in powers]
    return Poly(tuple(rows))


def random_sum(random, size, most):
    return Sum(size, tuple((shape, random_poly(random, most)) for shape in all_shapes(size) if random.random() < 0.7))


class Slow:
    """While it is entered, all is worked out by polynomials as they are."""

    def __enter__(self):
        self.most = packs.MOST_FIELDS
        packs.MOST_FIELDS = 0

    def __exit__(self, *told):
        packs.MOST_FIELDS = self.most


class TestIntegers(unittest.TestCase):
    def test_there_and_back(self):
        random = Random(5)
        for _ in range(200):
            width, bits = random.randint(7, 20), 4 * random.randint(3, 30)
            most = 2 ** (bits - 1)
            table = {}
            for _ in range(random.randint(0, 30)):
                table[random.randint(-4, 9), random.randint(-3, 3)] = random.choice((1, -1, most - 1, -most, 5 - most))
            rows = tuple(sorted((i, j, c) for (i, j), c in table.items()))
            self.assertEqual(unpacked(packed(rows, (-4, -3), width, bits), (-4, -3), width, bits), rows)
        self.assertEqual(packed((), (0, 0), 5, 16), 0)
        self.assertEqual(unpacked(0, (0, 0), 5, 16), ())


class TestWays(unittest.TestCase):
    def test_choice(self):
        rows = list((Q + T).rows)
        one = [(0, 0, 1)]
        self.assertIsInstance(way_to_work(rows, one, ONE - Q, 4, 24), Dense)
        for told in (([], one, Q), (rows, [], Q), (rows, one, ZERO)):
            self.assertIsInstance(way_to_work(*told, 4, 24), Sparse)
        wide = list((Q + Poly.letter(200, 200)).rows)
        self.assertIsInstance(way_to_work(wide, one, ONE, 4, 24), Sparse)
        self.assertIsInstance(way_to_work(rows, wide, ONE, 4, 24), Sparse)
        self.assertIsInstance(way_to_work(rows, one, ONE + Poly.letter(100, 100), 4, 24), Sparse)
        long = list((Q * Poly.number(10 ** 59) + Poly.letter(0, 20)).rows)
        self.assertIsInstance(way_to_work(long, long, Poly.number(10 ** 59) - Q, 6, 24), Sparse)

    def test_methods(self):
        for way in (Sparse(), way_to_work([(-2, 3, 1), (4, -1, 1)], [(-1, -1, 5), (2, 2, 1)], Q - BELOW, 3, 24)):
            one, other = Poly.letter(-2, 3) - Poly.letter(4, -1), Poly.letter(-1, -1) + Poly.letter(2, 2)
            unit = way.raised(way.one(), 0)
            self.assertEqual(way.poly(way.pack(one) * unit), one)
            self.assertEqual(way.poly_beside(way.pack(one) * unit * way.pack_beside(other)), one * other)
            self.assertEqual(way.poly(way.total([(3, way.pack(one) * unit), (-2, unit * way.pack(one))])), one)
            self.assertEqual(way.poly(way.share(way.total([(6, way.pack(one) * unit)]), 6)), one)
            put = way.letters(Q - Poly.letter(-1, 0), 2)
            self.assertEqual(way.poly(way.raised(put, 2) * way.pack(one)),
                             one * (Poly.letter(2, 0) - Poly.letter(-2, 0)))
            self.assertIs(way.is_zero(way.total([(1, unit), (-1, unit)])), True)
            self.assertIs(way.is_zero(unit), False)

    def check(self, call, *given):
        made = call(*given)
        with Slow():
            right = call(*given)
        self.assertEqual(made, right)

    def test_one_result(self):
        for size in range(7):
            for some in sample_sums(size) + [shape_sum(shape) for shape in all_shapes(size)[:4] if shape]:
                for poly in POLYS if size < 5 else POLYS[::4]:
                    for call in (times_letters, put_letters, added_letters):
                        self.check(call, some, poly)
                for step in (0, 1) if size < 6 else (0, -1):
                    self.check(moved, some, step)
                if 0 < size < 6:
                    self.check(lead, some, 1)
                self.check(triangle, some, "t")
                self.check(multiple_of, some)
                self.check(star, some, some)
                if size < 6:
                    self.check(nabla, some)
                    self.check(nabla, nabla(some))

    def test_long_integers(self):
        random = Random(11)
        for k in range(60):
            size = k % 5 + 1
            most = 10 ** random.choice((1, 5, 20, 59))
            some, other = random_sum(random, size, most), random_sum(random, size, most)
            poly = random_poly(random, 10 ** random.choice((0, 1, 9)))
            for call in (times_letters, put_letters, added_letters):
                self.check(call, some, poly)
            self.check(star, some, other)
            self.check(nabla, some)
            self.check(moved, some, 0)
            self.check(lead, some, 1)


if __name__ == "__main__":
    unittest.main()
