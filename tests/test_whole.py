"""The whole document: the main promise ([0.12] to [0.17]), and the errors that are the same everywhere ([0.18])."""

import unittest
from math import factorial

from armlegs.arcs.arcs import colour_sum
from armlegs.base.polys import Poly
from armlegs.base.shapes import (
    compositions_of, higher_shapes, lift, lower_shapes, norm, place_sum, shapes_of, squares_of, turned_shape, value_of,
)
from armlegs.deeds.nabla import elementary_image, nabla
from armlegs.deeds.values import lowering, moved, raising, shape_number, star
from armlegs.fill.charges import at_letter, cocharge_sum, column_product, hook_sum, row_product
from armlegs.fill.fillings import counts_of, filling_sum, shape_sum, standard_fillings
from armlegs.fill.triangles import first_failure, is_shape_sum, multiple_of, which_shape
from armlegs.paths.paths import area_rows, path_sum, row_sum
from armlegs.paths.tables import table_sum
from armlegs.paths.touching import lead_sum, touch_sum
from armlegs.rooms.spaces import harmonic_degrees, harmonic_sum, space_degrees, space_sum
from armlegs.sums.letters import taken_out
from armlegs.sums.sums import Sum, standard_number
from armlegs.text.texts import read_sum, write_sum
from armlegs.words.words import composition_of, fundamental_paper, pairs_of_words
from tests.helpers import HOOK, ONE, Q, T, all_shapes

SMALL = [shape for size in range(1, 5) for shape in all_shapes(size)]
FIRST = Sum.of_kind("e", (1,))


class TestOneSum(unittest.TestCase):
    """All roads lead to the sum of a shape."""

    def test_values_of_the_document(self):
        self.assertEqual(shape_sum((2, 1)), HOOK)
        self.assertEqual((Q.rows, T.rows, ONE.rows), (((1, 0, 1),), ((0, 1, 1),), ((0, 0, 1),)))

    def test_by_all_fillings(self):
        for shape in SMALL:
            size = sum(shape)
            pairs = tuple((c, filling_sum(shape, c)) for c in all_shapes(size))
            self.assertEqual(Sum.from_numbers("h", size, pairs), shape_sum(shape))

    def test_by_standard_fillings(self):
        for shape in SMALL + [(3, 2), (2, 2, 1)]:
            size = sum(shape)
            told = []
            for filling in standard_fillings(shape):
                inv, maj = counts_of(shape, filling)
                told.append((filling, Poly.letter(inv, maj)))
            paper = fundamental_paper(size, pairs_of_words(size, tuple(told)))
            self.assertEqual(paper, ("symmetric", shape_sum(shape)))
            self.assertEqual(len(told), factorial(size))
            self.assertEqual(composition_of(told[0][0]), (size,))

    def test_by_triangles(self):
        for shape in SMALL:
            for other in all_shapes(sum(shape)):
                made = shape_sum(other)
                self.assertEqual(first_failure(shape, made) is None, shape == other)
                self.assertIs(is_shape_sum(shape, made), shape == other)
            self.assertEqual(which_shape(shape_sum(shape)), shape)
            self.assertEqual(multiple_of(shape_sum(shape).times(Q - T)), (shape, Q - T))

    def test_by_the_operator(self):
        for shape in SMALL:
            made = shape_sum(shape)
            self.assertEqual(moved(made, 0), made.times(value_of(shape)))
            for other in all_shapes(sum(shape)):
                if other != shape:
                    self.assertNotEqual(value_of(other), value_of(shape))
                    self.assertEqual(len(star(made, shape_sum(other))), 0)
            self.assertEqual(star(made, made), norm(shape))
            self.assertEqual(shape_number(made, shape), (norm(shape), norm(shape)))
            self.assertEqual(nabla(made), made.times(lift(shape)))

    def test_by_squares(self):
        # Quotients are compared by their values at some numbers.
        for shape in SMALL[1:]:
            made, size = taken_out(shape_sum(shape), "e", (1,)), sum(shape) - 1
            whole = Sum(size, ())
            bottom = ONE
            for lower in lower_shapes(shape):
                bottom = bottom * lowering(shape, lower)[1]
            for lower in lower_shapes(shape):
                top, below = lowering(shape, lower)
                whole = whole + shape_sum(lower).times((top * bottom).over(below))
            self.assertEqual(whole, made.times(bottom))
            parts = Poly(())
            for lower in lower_shapes(shape):
                top, below = lowering(shape, lower)
                parts = parts + (top * bottom).over(below)
            self.assertEqual(parts, bottom * place_sum(shape))
        for lower in SMALL[:7]:
            bottom = ONE
            for shape in higher_shapes(lower):
                bottom = bottom * raising(lower, shape)[1]
            whole = Sum(sum(lower) + 1, ())
            for shape in higher_shapes(lower):
                top, below = raising(lower, shape)
                whole = whole + shape_sum(shape).times(top * bottom.over(below))
            self.assertEqual(whole, (FIRST * shape_sum(lower)).times(bottom))

    def test_by_spaces(self):
        for shape in SMALL:
            size = sum(shape)
            made = shape_sum(shape)
            self.assertEqual(space_sum(shape), made)
            self.assertEqual(space_degrees(squares_of(shape)), standard_number(made))
            self.assertEqual(standard_number(made).at(1, 1), (factorial(size), 1))
            self.assertTrue(all(number.is_positive() for _, number in made.pairs))

    def test_turned_and_one_letter(self):
        for shape in SMALL:
            made = shape_sum(shape)
            self.assertEqual(shape_sum(turned_shape(shape)).with_traded(), made)
            self.assertEqual(at_letter(made, "q = 0"), cocharge_sum(shape))
            self.assertEqual(at_letter(made, "t = 1"), row_product(shape))
            self.assertEqual(at_letter(made, "q = 1"), column_product(shape))
            self.assertEqual(at_letter(made, "t = 1 / q"), hook_sum(shape))
        for size in range(1, 5):
            self.assertEqual(colour_sum((size,) * size), shape_sum((size,)))

    def test_by_texts(self):
        for shape in SMALL:
            self.assertEqual(read_sum(write_sum(shape_sum(shape))), shape_sum(shape))


class TestNabla(unittest.TestCase):
    """All roads lead to nabla of the elementary sum."""

    def test_roads(self):
        for size in range(1, 5):
            made = elementary_image(size)
            self.assertEqual(made, nabla(Sum.of_kind("e", (size,))))
            self.assertEqual(path_sum(size), made)
            self.assertEqual(harmonic_sum(size), made)
            self.assertEqual(harmonic_degrees(size), standard_number(made))
            self.assertEqual(table_sum(size), standard_number(made))
            self.assertEqual(standard_number(made).at(1, 1), ((size + 1) ** (size - 1), 1))
            rows, touched, leads = Sum(size, ()), Sum(size, ()), Sum(size, ())
            for row in area_rows(size):
                rows = rows + row_sum(row)
            for composition in compositions_of(size):
                touched = touched + touch_sum(composition)
                leads = leads + lead_sum(composition)
                self.assertEqual(nabla(lead_sum(composition)), touch_sum(composition))
            self.assertEqual((rows, touched, nabla(leads)), (made, made, made))

    def test_by_shape_sums(self):
        # With a common bottom: the numbers of e_n at the sums of shapes, times the lifts, times these sums.
        for size in range(1, 5):
            shapes = shapes_of(size)
            bottom = ONE
            for shape in shapes:
                bottom = bottom * norm(shape)
            whole = Sum(size, ())
            for shape in shapes:
                top, below = shape_number(Sum.of_kind("e", (size,)), shape)
                whole = whole + shape_sum(shape).times(top * lift(shape) * bottom.over(below))
            self.assertEqual(whole, elementary_image(size).times(bottom))


class TestNotTrue(unittest.TestCase):
    def test_not_true(self):
        self.assertEqual([sum(c for _, _, c in number.rows) for _, number in HOOK.pairs], [1, 2, 1])
        same = Poly(((0, 0, 1),)), Poly(((1, 0, 2),)), Poly(((2, 0, 1),))
        made = []
        for _, number in HOOK.pairs:
            table = {}
            for i, j, c in number.rows:
                table[i + j] = table.get(i + j, 0) + c
            made.append(Poly(tuple((k, 0, table[k]) for k in sorted(table))))
        self.assertEqual(tuple(made), same)
        self.assertNotEqual(shape_sum((3,)), shape_sum((1, 1, 1)))
        self.assertEqual(shape_sum((3,)).with_traded(), shape_sum((1, 1, 1)))
        self.assertFalse(all(number.is_positive() for _, number in nabla(Sum.of_kind("s", (2,))).pairs))
        self.assertEqual(space_degrees(((0, 0), (0, 2))).at(1, 1), (4, 1))


if __name__ == "__main__":
    unittest.main()
