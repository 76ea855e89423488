"""Labelled paths: [12.1] to [12.8]."""

import unittest
from itertools import permutations, product

from armlegs.base.polys import Poly
from armlegs.deeds.nabla import elementary_image
from armlegs.errors import InvalidNumber, InvalidPath
from armlegs.paths import paths
from armlegs.paths.paths import (
    area_rows, is_area_row, is_labelled, labelled_paths, path_counts, path_sum, path_word, row_polynomial, row_sum,
)
from armlegs.sums.letters import times_letters
from armlegs.sums.sums import Sum
from armlegs.words.words import composition_of, fundamental_paper
from tests.helpers import HOOK, NO_INTEGERS, NO_TUPLES, ONE, Q, T, ZERO, all_shapes, at_letters, refuse

SIZES = range(1, 7)
NO_ROWS = NO_TUPLES + (
    (), (1,), (0, 2), (0, 1, 3), (0, -1), (0, 0, 2), (1, 1), (0, True), (False,), (False, 0), (0, False), (0, None),
    (0, "1"), [0], [0, 1], (0,) * 7, (0, 1, 2, 3, 4, 5, 6), (0, (1,)), (0, 10 ** 60), (0, -(10 ** 60)), (0, ONE), "01",
    {0: 0}, ((0,),), (HOOK,),
)
# No one of these is a tuple of labels of the row (0, 1, 0).
NO_LABELS = NO_TUPLES + (
    (), (1,), (1, 2), (2, 1, 3), (3, 1, 2), (3, 2, 1), (1, 2, 2), (0, 1, 2), (1, 2, 4), [1, 2, 3], (1, 2, True),
    (True, 2, 3), (1, 2, "3"), (1, 2, None), (1, 2, 3, 4), "123", {1: 1, 2: 2, 3: 3}, ((1, 2, 3),), (1, 3, 10 ** 60),
)


def brute_rows(size):
    """The area rows of Dyck paths: north and east steps that stay on one side of the slope."""
    found = []
    for steps in product((0, 1), repeat=2 * size):
        row, east = [], 0
        right = steps.count(1) == size
        for step in steps:
            if step == 1:
                row.append(len(row) - east)
            else:
                east += 1
                right = right and east <= len(row)
        if right:
            found.append(tuple(row))
    return sorted(found)


def brute_labels(row):
    found = []
    for labels in permutations(range(1, len(row) + 1)):
        ups = [k for k in range(len(row) - 1) if row[k + 1] == row[k] + 1]
        if all(labels[k] < labels[k + 1] for k in ups):
            found.append(labels)
    return sorted(found)


def brute_dinv(row, labels):
    made = 0
    for i in range(len(row)):
        for j in range(i + 1, len(row)):
            made += row[i] == row[j] and labels[i] < labels[j]
            made += row[i] == row[j] + 1 and labels[i] > labels[j]
    return made


def brute_word(row, labels):
    found = []
    for entry in range(5, -1, -1):
        for k in range(len(row) - 1, -1, -1):
            if row[k] == entry:
                found.append(labels[k])
    return tuple(found)


def brute_row_sum(row):
    parts = {}
    for labels in brute_labels(row):
        at = composition_of(brute_word(row, labels))
        parts[at] = parts.get(at, ZERO) + Poly.letter(brute_dinv(row, labels), sum(row))
    return fundamental_paper(len(row), tuple((at, parts[at]) for at in sorted(parts)))


class TestPaths(unittest.TestCase):
    def test_constants(self):
        self.assertEqual((paths.MOST_ENTRIES, paths.MOST_SUMMED), (6, 5))

    def test_area_rows(self):
        for size in SIZES:
            self.assertEqual(area_rows(size), tuple(brute_rows(size)))
        self.assertEqual([len(area_rows(size)) for size in SIZES], [1, 2, 5, 14, 42, 132])
        self.assertEqual(area_rows(1), ((0,),))
        for wrong in NO_INTEGERS + (0, 7, -1):
            refuse(self, InvalidNumber, ("given", wrong), area_rows, wrong)

    def test_is_area_row(self):
        for size in range(1, 5):
            right = brute_rows(size)
            for row in product(range(-1, size + 1), repeat=size):
                self.assertIs(is_area_row(row), row in right)
        for row in brute_rows(6):
            self.assertIs(is_area_row(row), True)
        for wrong in NO_ROWS:
            self.assertIs(is_area_row(wrong), False, wrong)

    def test_labels(self):
        for size in SIZES:
            many = 0
            for row in area_rows(size):
                right = brute_labels(row)
                self.assertEqual(list(labelled_paths(row)), right)
                many += len(right)
                if size < 5:
                    for labels in permutations(range(1, size + 1)):
                        self.assertIs(is_labelled(row, labels), labels in right)
                else:
                    self.assertTrue(all(is_labelled(row, labels) for labels in right[::9]))
            self.assertEqual(many, (size + 1) ** (size - 1))
        self.assertIs(is_labelled((0,), (1,)), True)
        for wrong in NO_LABELS:
            self.assertIs(is_labelled((0, 1, 0), wrong), False, wrong)

    def test_generator(self):
        made = labelled_paths((0, 1))
        self.assertEqual(next(made), (1, 2))
        self.assertRaises(StopIteration, next, made)
        for wrong in NO_ROWS:
            made = labelled_paths(wrong)
            refuse(self, InvalidPath, None, next, made)

    def test_counts_and_words(self):
        for size in SIZES:
            for row in area_rows(size):
                for labels in brute_labels(row)[::1 if size < 5 else 11]:
                    self.assertEqual(path_counts(row, labels), (sum(row), brute_dinv(row, labels)))
                    self.assertEqual(path_word(row, labels), brute_word(row, labels))
        self.assertEqual(path_counts((0,), (1,)), (0, 0))
        self.assertEqual(path_counts((0, 0), (1, 2)), (0, 1))
        self.assertEqual(path_counts((0, 1, 0), (1, 3, 2)), (1, 2))
        self.assertEqual(path_counts((0, 1, 0), (2, 3, 1)), (1, 1))
        self.assertEqual(path_word((0, 1, 0), (1, 3, 2)), (3, 2, 1))
        self.assertEqual(path_word((0, 0, 1, 1), (1, 2, 3, 4)), (4, 3, 2, 1))

    def test_errors(self):
        for wrong in NO_ROWS:
            refuse(self, InvalidPath, None, is_labelled, wrong, (1,))
            refuse(self, InvalidPath, None, is_labelled, wrong, None)
            for call in (path_counts, path_word):
                refuse(self, InvalidPath, None, call, wrong, (1,))
                refuse(self, InvalidPath, None, call, wrong, None)
        for call in (path_counts, path_word):
            for wrong in NO_LABELS:
                refuse(self, InvalidPath, None, call, (0, 1, 0), wrong)


class TestSums(unittest.TestCase):
    def test_row_sums(self):
        for size in range(1, 6):
            for row in area_rows(size):
                made = row_sum(row)
                self.assertEqual(brute_row_sum(row), ("symmetric", made))
                self.assertEqual(made.size, size)
                self.assertTrue(all(number.is_positive() for _, number in made.pairs))
        self.assertEqual(row_sum((0,)), Sum.of_kind("s", (1,)))
        self.assertEqual(row_sum((0, 0)).pairs, (((2,), ONE), ((1, 1), Q)))
        self.assertEqual(row_sum((0, 1)).pairs, (((1, 1), T),))

    def test_by_parking(self):
        # The sum is also told by labels that can be repeated: the products of the letters with these numbers.
        letters = (Q, ONE + T, Poly.number(2))
        for size in range(1, 4):
            for row in area_rows(size):
                right = ZERO
                for labels in product(range(3), repeat=size):
                    if all(row[k + 1] != row[k] + 1 or labels[k] < labels[k + 1] for k in range(size - 1)):
                        term = Poly.letter(brute_dinv(row, labels), sum(row))
                        for label in labels:
                            term = term * letters[label]
                        right = right + term
                self.assertEqual(at_letters(row_sum(row), letters), right)

    def test_path_sum(self):
        for size in range(1, 6):
            made = path_sum(size)
            right = Sum(size, ())
            for row in area_rows(size):
                right = right + row_sum(row)
            self.assertEqual(made, right)
            self.assertEqual(made, elementary_image(size))
            self.assertEqual(made.with_traded(), made)
            self.assertEqual(made.number_at("h", (1,) * size).at(1, 1), ((size + 1) ** (size - 1), 1))

    def test_row_polynomial(self):
        for size in SIZES:
            right = ZERO
            for row in area_rows(size):
                pairs = [1 for j in range(size) for i in range(j) if row[i] in (row[j], row[j] + 1)]
                right = right + Poly.letter(len(pairs), sum(row))
            made = row_polynomial(size)
            self.assertEqual(made, right)
            self.assertEqual(made.at(1, 1), (len(area_rows(size)), 1))
            if size < 6:
                self.assertEqual(made, path_sum(size).number_at("e", (size,)))
        self.assertEqual(row_polynomial(1), ONE)
        self.assertEqual(row_polynomial(2), Q + T)

    def test_one_letter(self):
        for size in range(1, 6):
            count = Poly(tuple((k, 0, 1) for k in range(size + 1)))
            right = times_letters(Sum.of_kind("e", (size,)), count)
            for shape in all_shapes(size):
                number = ZERO
                for i, j, c in path_sum(size).number_at("s", shape).rows:
                    number = number + Poly(((i - j, 0, c),))
                whole = number * count * Poly.letter(size * (size - 1) // 2, 0)
                self.assertEqual(whole, right.number_at("s", shape))

    def test_errors(self):
        for wrong in NO_ROWS + tuple(area_rows(6)):
            refuse(self, InvalidPath, None, row_sum, wrong)
        for wrong in NO_INTEGERS + (0, 7, -1):
            refuse(self, InvalidNumber, ("given", wrong), row_polynomial, wrong)
            refuse(self, InvalidNumber, ("given", wrong), path_sum, wrong)
        refuse(self, InvalidNumber, ("given", 6), path_sum, 6)

    def test_not_true(self):
        self.assertNotEqual(row_sum((0, 1)).with_traded(), row_sum((0, 1)))
        counts = [path_counts((0, 1, 0), labels)[1] for labels in labelled_paths((0, 1, 0))]
        self.assertEqual(sorted(counts), [1, 1, 2])
        self.assertEqual([len(list(labelled_paths(row))) for row in ((0, 0, 1), (0, 1, 0), (0, 0, 1, 1), (0, 1, 0, 1))],
                         [3, 3, 12, 6])


if __name__ == "__main__":
    unittest.main()
