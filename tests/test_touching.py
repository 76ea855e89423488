"""Where paths touch: [13.1] to [13.7]."""

import unittest

from armlegs.base.polys import Poly
from armlegs.base.shapes import compositions_of
from armlegs.deeds.nabla import nabla
from armlegs.errors import InvalidNumber, InvalidPath, InvalidShape, InvalidSum, TooMany
from armlegs.paths import touching as touchings
from armlegs.paths.paths import area_rows, path_sum, row_sum
from armlegs.paths.touching import lead, lead_sum, touch_sum, touching
from armlegs.sums.letters import added_letters
from armlegs.sums.sums import Sum
from tests.helpers import HOOK, NO_INTEGERS, ONE, Q, T, refuse, sample_sums
from tests.test_paths import NO_ROWS
from tests.test_triangles import EMPTY, NO_SUMS
from tests.test_words import EVERY, NO_COMPOSITIONS

SIZES = range(1, 7)
BELOW = Poly.letter(-1, 0)


def brute_touching(row):
    parts = []
    for entry in row:
        if entry == 0:
            parts.append(0)
        parts[-1] += 1
    return tuple(parts)


def brute_lead(some, a):
    parts = added_letters(some, -(ONE - BELOW))
    made = Sum(some.size + a, ())
    for k in range(some.size + 1):
        row = Sum(a + k, (((a + k,), ONE),))
        part = parts[k]
        made = made + (row.times(part) if k == some.size else row * part)
    for _ in range(a - 1):
        made = made.times(-BELOW)
    return made


class TestTouching(unittest.TestCase):
    def test_constant(self):
        self.assertEqual(touchings.MOST_LED, 6)

    def test_touching(self):
        for size in SIZES:
            for row in area_rows(size):
                self.assertEqual(touching(row), brute_touching(row))
        self.assertEqual(touching((0,)), (1,))
        self.assertEqual(touching((0, 1, 1, 0, 0, 1)), (3, 1, 2))
        self.assertEqual(touching((0,) * 6), (1,) * 6)
        for wrong in NO_ROWS:
            refuse(self, InvalidPath, None, touching, wrong)

    def test_touch_sum(self):
        for size in range(1, 6):
            whole = Sum(size, ())
            for composition in compositions_of(size):
                right = Sum(size, ())
                for row in area_rows(size):
                    if brute_touching(row) == composition:
                        right = right + row_sum(row)
                self.assertEqual(touch_sum(composition), right)
                whole = whole + right
            self.assertEqual(whole, path_sum(size))
        self.assertEqual(touch_sum((1,)), Sum.of_kind("s", (1,)))
        self.assertEqual(touch_sum((1, 1)), row_sum((0, 0)))
        self.assertEqual(touch_sum((2,)), row_sum((0, 1)))

    def test_touch_errors(self):
        for wrong in NO_COMPOSITIONS:
            refuse(self, InvalidShape, None, touch_sum, wrong)
            refuse(self, InvalidShape, None, lead_sum, wrong)
        for composition in compositions_of(6):
            refuse(self, InvalidShape, None, touch_sum, composition)


class TestLeads(unittest.TestCase):
    def test_lead(self):
        for size in range(6):
            for some in sample_sums(size):
                for a in range(1, 7 - size):
                    made = lead(some, a)
                    self.assertEqual(made, brute_lead(some, a))
                    self.assertEqual(made.size, size + a)
        self.assertEqual(lead(EMPTY, 1), Sum.of_kind("h", (1,)))
        self.assertEqual(lead(EMPTY, 6).pairs, (((6,), -Poly.letter(-5, 0)),))
        self.assertEqual(lead(EMPTY.times(Q), 2).pairs, (((2,), -ONE),))

    def test_lead_errors(self):
        for wrong in NO_SUMS:
            refuse(self, InvalidSum, None, lead, wrong, 1)
            refuse(self, InvalidSum, None, lead, wrong, None)
        for wrong in NO_INTEGERS + (0, 7, -1):
            refuse(self, InvalidNumber, ("given", wrong), lead, HOOK, wrong)
            refuse(self, InvalidNumber, ("given", wrong), lead, Sum(6, ()), wrong)
        for size in SIZES:
            refuse(self, TooMany, ("limit", 6), lead, Sum(size, ()), 7 - size)
            refuse(self, TooMany, ("limit", 6), lead, sample_sums(size)[1], 6)
            self.assertEqual(lead(Sum(size - 1, ()), 7 - size), Sum(6, ()))

    def test_lead_sum(self):
        for composition in EVERY:
            if len(composition) == 1:
                a = composition[0]
                sign = Poly.number((-1) ** (a - 1))
                right = Sum.of_kind("h", composition).times(sign * Poly.letter(1 - a, 0))
            else:
                right = brute_lead(lead_sum(composition[1:]), composition[0])
            self.assertEqual(lead_sum(composition), right)
        self.assertEqual(lead_sum((1,)), Sum.of_kind("s", (1,)))
        self.assertEqual(lead_sum((2, 1)).pairs, (((3,), -Poly.letter(-2, 0)), ((2, 1), -BELOW)))

    def test_nabla(self):
        for size in range(1, 6):
            for composition in compositions_of(size):
                made = nabla(lead_sum(composition))
                self.assertEqual(made, touch_sum(composition))
                for _, number in made.pairs:
                    self.assertTrue(all(i >= 0 and j >= 0 and c > 0 for i, j, c in number.rows))

    def test_all_compositions(self):
        for size in SIZES:
            whole = Sum(size, ())
            for composition in compositions_of(size):
                whole = whole + lead_sum(composition)
            self.assertEqual(whole, Sum.of_kind("e", (size,)))

    def test_exchange(self):
        for size in range(4):
            for some in sample_sums(size)[1:3]:
                for a in range(1, 6):
                    for b in range(2, 7 - size - a):
                        left = (lead(lead(some, b), a) + lead(lead(some, a + 1), b - 1)).times(Q)
                        self.assertEqual(left, lead(lead(some, a), b) + lead(lead(some, b - 1), a + 1))

    def test_not_true(self):
        self.assertNotEqual(lead_sum((1, 2)), lead_sum((2, 1)))
        self.assertEqual(lead_sum((2,)).pairs, (((2,), -BELOW),))
        self.assertNotEqual(touch_sum((2,)).with_traded(), touch_sum((2,)))
        self.assertEqual(touch_sum((2,)).pairs, (((1, 1), T),))


if __name__ == "__main__":
    unittest.main()
