"""The tables that are kept with the package are what the definitions ask."""

import unittest
from math import factorial

from armlegs.base.colourings import BIT_COUNTS
from armlegs.base.parts import SHAPES, times_rows
from armlegs.base.traces import tableau_count, trace, z_of
from armlegs.deeds.images import IMAGE_ROWS
from armlegs.fill.fillings import filling_sum, shape_sum
from armlegs.fill.known import SHAPE_ROWS
from armlegs.sums.tables import (
    COMPLETE_ROWS, ELEMENTARY_ROWS, FORGOTTEN_ROWS, MONOMIAL_ROWS, POWER_ROWS, PRODUCTS, RENAMINGS,
)
from tests.helpers import all_shapes


def turned(shape):
    return tuple(len([part for part in shape if part > k]) for k in range(shape[0] if shape else 0))


class TestTables(unittest.TestCase):
    def test_shapes(self):
        self.assertEqual(SHAPES, tuple(tuple(all_shapes(size)) for size in range(7)))

    def test_kinds(self):
        for size in range(1, 7):
            shapes = all_shapes(size)
            self.assertEqual(COMPLETE_ROWS[size], tuple(
                tuple(tableau_count(shape, content) for shape in shapes) for content in shapes))
            self.assertEqual(ELEMENTARY_ROWS[size], tuple(
                tuple(tableau_count(turned(shape), content) for shape in shapes) for content in shapes))
            self.assertEqual(POWER_ROWS[size], tuple(
                tuple(trace(shape, cycles) for shape in shapes) for cycles in shapes))
            self.assertEqual(RENAMINGS[size], tuple(factorial(size) // z_of(cycles) for cycles in shapes))
        for rows in (COMPLETE_ROWS, ELEMENTARY_ROWS, POWER_ROWS, MONOMIAL_ROWS, FORGOTTEN_ROWS):
            self.assertEqual((len(rows), rows[0]), (7, ((1,),)))
        self.assertEqual(RENAMINGS[0], (1,))

    def test_opposite_kinds(self):
        # The pairing of a sum of the kind "h" and one of the kind "m" is 1 for one shape, otherwise 0.
        for size in range(7):
            for straight, opposite in ((COMPLETE_ROWS, MONOMIAL_ROWS), (ELEMENTARY_ROWS, FORGOTTEN_ROWS)):
                for k, one in enumerate(straight[size]):
                    for m, other in enumerate(opposite[size]):
                        self.assertEqual(sum(a * b for a, b in zip(one, other)), int(k == m))

    def test_products(self):
        found = set()
        for size in range(1, 6):
            for more in range(1, min(size, 6 - size) + 1):
                for one in all_shapes(size):
                    for other in all_shapes(more):
                        found.add((one, other))
                        made = {}
                        for content, row in zip(all_shapes(more), MONOMIAL_ROWS[more]):
                            weight = row[all_shapes(more).index(other)]
                            for shape, many in times_rows({one: 1}, content).items():
                                made[shape] = made.get(shape, 0) + weight * many
                        right = tuple((shape, made[shape]) for shape in all_shapes(size + more) if made.get(shape))
                        self.assertEqual(PRODUCTS[one, other], right)
        self.assertEqual(set(PRODUCTS), found)

    def test_shape_sums(self):
        for size in range(1, 7):
            for shape in all_shapes(size):
                made = shape_sum(shape)
                self.assertEqual(tuple((other, number.rows) for other, number in made.pairs), SHAPE_ROWS[shape])
                for content in all_shapes(size):
                    self.assertEqual(made.number_at("h", content), filling_sum(shape, content))
        self.assertEqual(set(SHAPE_ROWS), {shape for size in range(1, 7) for shape in all_shapes(size)})

    def test_images(self):
        # What they tell is compared with the sums of shapes by the tests of nabla.
        self.assertEqual(set(IMAGE_ROWS), {shape for size in range(6) for shape in all_shapes(size)})
        for shape, (sign, pairs) in IMAGE_ROWS.items():
            self.assertIn(sign, (1, -1))
            for other, rows in pairs:
                self.assertEqual(sum(other), sum(shape))
                self.assertEqual(list(rows), sorted(rows))
                self.assertTrue(all(c > 0 for _, _, c in rows))

    def test_bits(self):
        self.assertEqual(BIT_COUNTS, tuple(bin(k).count("1") for k in range(64)))


if __name__ == "__main__":
    unittest.main()
