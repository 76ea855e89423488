"""Cycles, traces and tableaux: [3.1] to [3.6]."""

import unittest
from fractions import Fraction
from itertools import combinations, permutations
from math import factorial, prod

from armlegs.base.shapes import hook, is_at_or_above, shapes_of, squares_of, turned_shape
from armlegs.base.traces import standard_count, tableau_count, tableaux, trace, traces, z_of
from armlegs.errors import InvalidNumber, InvalidOperation, InvalidShape
from tests.helpers import (
    NO_INTEGERS, NO_TUPLES, all_contents, all_shapes, brute_tableaux, cycles_of, refuse, squares,
)
from tests.test_shapes import EVERY, NO_SHAPES, SIZES

NO_CONTENTS = NO_TUPLES + ((), (0,), (3,), (1,), (3, -1), (1, 0), (0, 0, 0, 0, 0, 0), (2, 0, 0, 0, 0, 0, 0))


def is_strip(lot):
    rows = {row for row, _ in lot}
    if any({(r, c), (r + 1, c), (r, c + 1), (r + 1, c + 1)} <= lot for r, c in lot):
        return False
    reached = {min(lot)}
    while True:
        more = {(r, c) for r, c in lot
                if (r, c) not in reached and reached & {(r + 1, c), (r - 1, c), (r, c + 1), (r, c - 1)}}
        if not more:
            break
        reached |= more
    return reached == lot and len(rows) > 0


def rows_left(left):
    rows = [len([1 for r, _ in left if r == row]) for row in range(6)]
    shape = tuple(length for length in rows if length)
    return shape if squares(shape) == left and list(shape) == sorted(shape, reverse=True) else None


def brute_trace(shape, parts):
    if not parts:
        return 1 if not shape else 0
    total = 0
    for lot in combinations(sorted(squares(shape)), parts[0]):
        left = rows_left(squares(shape) - set(lot))
        if left is not None and is_strip(set(lot)):
            rows = len({row for row, _ in lot})
            total += (-1) ** (rows - 1) * brute_trace(left, parts[1:])
    return total


class TestTraces(unittest.TestCase):
    def test_z(self):
        for size in SIZES:
            counted = {}
            for renaming in permutations(range(size)):
                cycles = cycles_of(renaming)
                counted[cycles] = counted.get(cycles, 0) + 1
            for shape in all_shapes(size):
                self.assertEqual(z_of(shape) * counted[shape], factorial(size))
        self.assertEqual([z_of((1,)), z_of((6,)), z_of((1,) * 6), z_of((3, 2, 1)), z_of((2, 2, 2))], [1, 6, 720, 6, 48])

    def test_trace_by_strips(self):
        for size in SIZES:
            for shape in all_shapes(size):
                for cycles in all_shapes(size):
                    self.assertEqual(trace(shape, cycles), brute_trace(shape, cycles), (shape, cycles))

    def test_sequence_of_the_parts(self):
        for size in range(1, 6):
            for shape in all_shapes(size):
                for cycles in all_shapes(size):
                    for parts in set(permutations(cycles)):
                        self.assertEqual(trace(shape, cycles), brute_trace(shape, parts))

    def test_table(self):
        for size in SIZES:
            rows = tuple(tuple(trace(a, c) for c in shapes_of(size)) for a in shapes_of(size))
            self.assertEqual(traces(size), rows)
            self.assertEqual(rows[0], (1,) * len(rows))
        self.assertEqual(traces(1), ((1,),))
        self.assertEqual(traces(4), (
            (1, 1, 1, 1, 1), (-1, 0, -1, 1, 3), (0, -1, 2, 0, 2), (1, 0, -1, -1, 3), (-1, 1, 1, -1, 1)))

    def test_apart(self):
        for size in SIZES:
            told = shapes_of(size)
            table = traces(size)
            for k in range(len(told)):
                for m in range(len(told)):
                    rows = sum(Fraction(table[k][c] * table[m][c], z_of(told[c])) for c in range(len(told)))
                    self.assertEqual(rows, 1 if k == m else 0)
                    columns = sum(table[a][k] * table[a][m] for a in range(len(told)))
                    self.assertEqual(columns, z_of(told[k]) if k == m else 0)

    def test_turned(self):
        for size in SIZES:
            for shape in shapes_of(size):
                for cycles in shapes_of(size):
                    sign = prod(-1 if part % 2 == 0 else 1 for part in cycles)
                    self.assertEqual(trace(turned_shape(shape), cycles), sign * trace(shape, cycles))

    def test_errors(self):
        for wrong in NO_SHAPES:
            refuse(self, InvalidShape, None, z_of, wrong)
            refuse(self, InvalidShape, None, trace, wrong, (1,))
            refuse(self, InvalidShape, None, trace, (2, 1), wrong)
        for one in EVERY:
            for other in EVERY:
                if sum(one) != sum(other):
                    refuse(self, InvalidShape, None, trace, one, other)
        refuse(self, InvalidShape, None, trace, (2, 1), (1, 2))
        for wrong in NO_INTEGERS + (0, 7, -1):
            refuse(self, InvalidNumber, ("given", wrong), traces, wrong)

    def test_not_true(self):
        self.assertEqual((trace((2, 1, 1), (4,)), trace((4,), (4,))), (1, 1))
        self.assertEqual((len(cycles_of((1, 0, 2, 3))), trace((1, 1, 1, 1), (2, 1, 1))), (3, -1))
        self.assertEqual((is_at_or_above((2, 1), (1, 1, 1)), tableau_count((2, 1), (1, 1, 1))), (True, 2))


class TestTableaux(unittest.TestCase):
    def contents(self):
        told = [content for size in range(1, 5) for count in range(1, 5) for content in all_contents(size, count)]
        told = told + [(3, 2), (2, 3), (1, 2, 2), (2, 1, 1, 1), (1, 0, 2, 0, 2), (1, 1, 1, 1, 1), (0, 5), (5,)]
        return told + [(1,) * 6, (2, 2, 2), (1, 2, 3), (3, 0, 0, 2, 0, 1), (0, 0, 0, 0, 0, 6), (6,), (1, 1, 2, 2)]

    def test_tableaux(self):
        for content in self.contents():
            for shape in all_shapes(sum(content)):
                right = brute_tableaux(shape, content)
                self.assertEqual(list(tableaux(shape, content)), right, (shape, content))
                self.assertEqual(tableau_count(shape, content), len(right))

    def test_sequence_of_the_content(self):
        for size in SIZES:
            for shape in all_shapes(size):
                for other in all_shapes(size):
                    many = tableau_count(shape, other)
                    self.assertEqual(many > 0, is_at_or_above(shape, other))
                    for content in sorted(set(permutations(other + (0,) * min(1, 6 - len(other)))))[::7]:
                        self.assertEqual(tableau_count(shape, content), many)
                self.assertEqual(tableau_count(shape, shape), 1)

    def test_standard(self):
        for size in SIZES:
            total = 0
            for shape in all_shapes(size):
                hooks = prod(hook(shape, square) for square in squares_of(shape))
                self.assertEqual(standard_count(shape), factorial(size) // hooks)
                self.assertEqual(standard_count(shape), trace(shape, (1,) * size))
                self.assertEqual(standard_count(shape), len(list(tableaux(shape, (1,) * size))))
                total += standard_count(shape) ** 2
            self.assertEqual(total, factorial(size))

    def test_all_words(self):
        for content in self.contents():
            size = sum(content)
            words = factorial(size) // prod(factorial(many) for many in content)
            made = sum(tableau_count(shape, content) * standard_count(shape) for shape in shapes_of(size))
            self.assertEqual(made, words)

    def test_generator(self):
        made = tableaux((2, 1), (1, 1, 1))
        self.assertEqual(next(made), ((1, 2), (3,)))
        self.assertEqual(next(made), ((1, 3), (2,)))
        self.assertRaises(StopIteration, next, made)
        self.assertEqual(list(tableaux((1, 1), (2,))), [])

    def test_errors(self):
        for wrong in NO_SHAPES:
            refuse(self, InvalidShape, None, tableau_count, wrong, (1,))
            refuse(self, InvalidShape, None, tableau_count, wrong, None)
            refuse(self, InvalidShape, None, standard_count, wrong)
            made = tableaux(wrong, None)
            refuse(self, InvalidShape, None, next, made)
        for wrong in NO_CONTENTS:
            refuse(self, InvalidOperation, None, tableau_count, (2,), wrong)
            made = tableaux((2,), wrong)
            refuse(self, InvalidOperation, None, next, made)
        self.assertEqual(tableau_count((2,), (0, 0, 0, 0, 0, 2)), 1)
        for wrong in ((True, 1), (1, True), (2, False), (2, 0, None), [1, 1]):
            refuse(self, InvalidOperation, None, tableau_count, (2,), wrong)


if __name__ == "__main__":
    unittest.main()
