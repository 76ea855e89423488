"""The examples of the document, stage by stage."""

import unittest

from armlegs.base.polys import Poly
from armlegs.base.shapes import arm, compositions_of, hook, leg, rise, shapes_of, squares_of, turned_shape
from armlegs.base.traces import standard_count, trace, traces, z_of
from armlegs.sums.letters import put_letters, times_letters
from armlegs.sums.sums import Sum
from armlegs.words.words import composition_of, inverse_descents, is_finer, word_of_composition

Q = Poly.letter(1, 0)
T = Poly.letter(0, 1)
ONE = Poly.number(1)
HOOK = Sum(3, (((3,), ONE), ((2, 1), Q + T), ((1, 1, 1), Q * T)))


class TestExamples(unittest.TestCase):
    def test_polynomials(self):
        self.assertEqual(
            [(Q + T).rows, ((Q + T) * (Q - T)).rows, (Q - Q).rows, len(ONE), (Q + T).power(2).rows,
             -ONE == Poly(((0, 0, -1),))],
            [((0, 1, 1), (1, 0, 1)), ((0, 2, -1), (2, 0, 1)), (), 1, ((0, 2, 1), (1, 1, 2), (2, 0, 1)), True])

    def test_shapes(self):
        self.assertEqual(
            [shapes_of(4), compositions_of(3), turned_shape((3, 1)), squares_of((2, 1)), arm((3, 1), (0, 0)),
             leg((3, 1), (0, 0)), hook((3, 1), (0, 0)), rise((2, 1, 1))],
            [((4,), (3, 1), (2, 2), (2, 1, 1), (1, 1, 1, 1)), ((3,), (2, 1), (1, 2), (1, 1, 1)), (2, 1, 1),
             ((0, 0), (0, 1), (1, 0)), 2, 1, 4, 3])

    def test_cycles(self):
        self.assertEqual(
            [z_of((2, 2, 1)), trace((2, 1), (3,)), trace((2, 1), (2, 1)), traces(3), standard_count((3, 2))],
            [8, -1, 0, ((1, 1, 1), (-1, 0, 2), (1, -1, 1)), 5])

    def test_letters(self):
        self.assertEqual(
            [times_letters(HOOK, ONE - Q).pairs == (
                ((3,), (ONE - Q) * (ONE - Q * Q) * (ONE - Q * T)), ((2, 1), (T - Q * Q) * (ONE - Q) * (ONE - Q))),
             put_letters(HOOK, ONE + Q) == ONE + Q * Q * Q + (Q + Q * Q) * (ONE + Q + T)],
            [True, True])

    def test_words(self):
        self.assertEqual(
            [inverse_descents((2, 3, 1)), composition_of((2, 3, 1)), composition_of((1, 3, 2)),
             word_of_composition((2, 1)), word_of_composition((1, 2, 1)), is_finer((1, 1, 2), (2, 2)),
             is_finer((1, 2, 1), (2, 2))],
            [(1,), (1, 2), (2, 1), (3, 1, 2), (4, 2, 3, 1), True, False])


if __name__ == "__main__":
    unittest.main()
