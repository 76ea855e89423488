"""The examples of the document, stage by stage."""

import unittest

from armlegs.arcs.arcs import arcs_of, is_proper, rises_of, spans_of, three_spans, turned_spans
from armlegs.base.polys import Poly
from armlegs.base.shapes import arm, compositions_of, hook, leg, rise, shapes_of, squares_of, turned_shape
from armlegs.base.traces import standard_count, trace, traces, z_of
from armlegs.deeds.nabla import elementary_image, nabla
from armlegs.desk.desk import Desk
from armlegs.fill.charges import charge, charge_rounds, cocharge, row_word
from armlegs.fill.fillings import counts_of, filling_sum, reading, shape_sum
from armlegs.fill.triangles import corner_number, triangle
from armlegs.paths.paths import area_rows, is_area_row, is_labelled, labelled_paths
from armlegs.paths.tables import entry_counts, hook_tables, is_hook_table
from armlegs.paths.touching import lead_sum, touching
from armlegs.rooms.spaces import derived, determinant, space_degrees
from armlegs.sums.letters import put_letters, times_letters
from armlegs.sums.sums import Sum
from armlegs.text.texts import read_poly, read_shape, write_poly, write_shape, write_sum
from armlegs.words.words import composition_of, inverse_descents, is_finer, word_of_composition

Q = Poly.letter(1, 0)
T = Poly.letter(0, 1)
ONE = Poly.number(1)
HOOK = Sum(3, (((3,), ONE), ((2, 1), Q + T), ((1, 1, 1), Q * T)))


class TestExamples(unittest.TestCase):
    def test_polynomials(self):
        self.assertEqual(
            [(Q + T).rows, ((Q + T) * (Q - T)).rows, (Q - Q).rows, len(ONE), (Q + T).power(2).rows,
             -ONE == Poly(((0, 0, -1),))],
            [((0, 1, 1), (1, 0, 1)), ((0, 2, -1), (2, 0, 1)), (), 1, ((0, 2, 1), (1, 1, 2), (2, 0, 1)), True])

    def test_shapes(self):
        self.assertEqual(
            [shapes_of(4), compositions_of(3), turned_shape((3, 1)), squares_of((2, 1)), arm((3, 1), (0, 0)),
             leg((3, 1), (0, 0)), hook((3, 1), (0, 0)), rise((2, 1, 1))],
            [((4,), (3, 1), (2, 2), (2, 1, 1), (1, 1, 1, 1)), ((3,), (2, 1), (1, 2), (1, 1, 1)), (2, 1, 1),
             ((0, 0), (0, 1), (1, 0)), 2, 1, 4, 3])

    def test_cycles(self):
        self.assertEqual(
            [z_of((2, 2, 1)), trace((2, 1), (3,)), trace((2, 1), (2, 1)), traces(3), standard_count((3, 2))],
            [8, -1, 0, ((1, 1, 1), (-1, 0, 2), (1, -1, 1)), 5])

    def test_letters(self):
        self.assertEqual(
            [times_letters(HOOK, ONE - Q).pairs == (
                ((3,), (ONE - Q) * (ONE - Q * Q) * (ONE - Q * T)), ((2, 1), (T - Q * Q) * (ONE - Q) * (ONE - Q))),
             put_letters(HOOK, ONE + Q) == ONE + Q * Q * Q + (Q + Q * Q) * (ONE + Q + T)],
            [True, True])

    def test_words(self):
        self.assertEqual(
            [inverse_descents((2, 3, 1)), composition_of((2, 3, 1)), composition_of((1, 3, 2)),
             word_of_composition((2, 1)), word_of_composition((1, 2, 1)), is_finer((1, 1, 2), (2, 2)),
             is_finer((1, 2, 1), (2, 2))],
            [(1,), (1, 2), (2, 1), (3, 1, 2), (4, 2, 3, 1), True, False])

    def test_fillings(self):
        self.assertEqual(
            [reading((2, 1)), counts_of((2, 1), (3, 1, 2)), counts_of((2, 1), (1, 3, 2)),
             counts_of((2, 2), (2, 1, 1, 1)), filling_sum((2, 1), (2, 1)) == ONE + Q + T,
             filling_sum((2, 1), (1, 2)) == ONE + Q + T],
            [((1, 0), (0, 0), (0, 1)), (0, 1), (1, 0), (0, 1), True, True])
        self.assertEqual(shape_sum((2, 1)), HOOK)

    def test_triangles(self):
        two = shape_sum((2,))
        self.assertEqual(
            [triangle(two, "q").numbers("s") == (((2,), Poly(((0, 0, 1), (1, 0, -1), (2, 0, -1), (3, 0, 1)))),),
             corner_number((2,), "q") == Poly(((0, 0, 1), (1, 0, -1), (2, 0, -1), (3, 0, 1))),
             corner_number((1,), "t") == Poly(((0, 0, 1), (0, 1, -1)))],
            [True, True, True])

    def test_charges(self):
        self.assertEqual(
            [charge((2, 1, 1)), charge((1, 1, 2)), charge((1, 2, 3)), charge((2, 1, 3)), cocharge((3, 2, 1)),
             charge_rounds((1, 1, 2)), row_word((2, 1), (2, 1), ((1, 1), (2,)))],
            [0, 1, 3, 1, 3, ((1, 2), (0,)), (2, 1, 1)])

    def test_nabla(self):
        self.assertEqual(
            [nabla(Sum.of_kind("s", (2,))).pairs == (((1, 1), -Q * T),),
             elementary_image(2).pairs == (((2,), ONE), ((1, 1), Q + T)), nabla(HOOK) == HOOK.times(Q * T),
             nabla(nabla(HOOK), many=-1) == HOOK],
            [True, True, True, True])

    def test_paths(self):
        self.assertEqual(
            [area_rows(3), is_area_row((0, 2)), is_labelled((0, 1, 0), (2, 1, 3)), list(labelled_paths((0, 1, 0)))],
            [((0, 0, 0), (0, 0, 1), (0, 1, 0), (0, 1, 1), (0, 1, 2)), False, False,
             [(1, 2, 3), (1, 3, 2), (2, 3, 1)]])

    def test_touching(self):
        self.assertEqual(
            [[touching(row) for row in ((0, 0, 1), (0, 1, 0), (0, 1, 2))], lead_sum((1, 1)).number_at("s", (2,)).rows,
             lead_sum((1, 1)).number_at("s", (1, 1)).rows, lead_sum((3,)).number_at("s", (3,)).rows],
            [[(1, 2), (2, 1), (3,)], ((-1, 0, 1),), ((0, 0, 1),), ((-2, 0, 1),)])

    def test_tables(self):
        self.assertEqual(
            [list(hook_tables(2)), is_hook_table(((0, 1), (2,))), is_hook_table(((1, 1), (2,))),
             [len(list(hook_tables(n))) for n in (1, 2, 3, 4)], entry_counts(3)],
            [[((0, 1), (2,)), ((1, 0), (1,))], True, False, [1, 2, 7, 40], ((3, 6), (4, 1))])

    def test_spaces(self):
        self.assertEqual(
            [determinant(((0, 0), (0, 1))), determinant(((0, 0), (1, 0))),
             derived(2, determinant(((0, 0), (0, 1))), 1), space_degrees(((0, 0), (0, 2))).rows],
            [(((0, 1, 0, 0), 1), ((1, 0, 0, 0), -1)), (((0, 0, 0, 1), 1), ((0, 0, 1, 0), -1)),
             (((0, 0, 0, 0), 1),), ((0, 0, 1), (1, 0, 2), (2, 0, 1))])

    def test_arcs(self):
        self.assertEqual(
            [spans_of(2), arcs_of((2, 3, 3)), turned_spans((1, 3, 3)), rises_of((2, 3, 3), (1, 2, 1)),
             is_proper((2, 3, 3), (1, 2, 1)), is_proper((2, 3, 3), (1, 1, 2)), three_spans((2, 3, 3), 1),
             three_spans((1, 2), 1)],
            [((1, 2), (2, 2)), ((1, 2), (2, 3)), (2, 2, 3), 1, True, False, ((1, 3, 3), (3, 3, 3)), None])

    def test_desk(self):
        desk = Desk()
        self.assertEqual(
            [desk.edit((("shape", "h", (2, 1)), ("put", "s", "s", (2, 1)))), desk.pin(("which", "h")),
             desk.edit((("trade", "h"),)), desk.edit((("add", "h", "s"),)), desk.standing(1, 2), desk.open_claims,
             str(desk)],
            [1, 1, 2, 3, ("stands", (True, ("shape", (2, 1)))), (1,), "desk of 2 things, edition 3, 1 claims"])

    def test_texts(self):
        self.assertEqual(
            [write_shape((2, 1)), read_shape("3,1,1"), write_poly(ONE + Q + Q - Q.power(3).shifted(0, -2)),
             read_poly("-t(-1)+q") == Q - Poly.letter(0, -1), write_poly(Poly(())), write_sum(HOOK)],
            ["2,1", (3, 1, 1), "1+2q-q3t(-2)", True, "0", "sum 3\n3 1\n2,1 t+q\n1,1,1 qt\n"])


if __name__ == "__main__":
    unittest.main()
