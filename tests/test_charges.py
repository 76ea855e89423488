"""One letter alone: [9.1] to [9.7]."""

import unittest
from itertools import permutations, product

from armlegs.base.polys import Poly
from armlegs.base.shapes import hook, is_at_or_above, rise, squares_of, turned_shape
from armlegs.base.traces import tableaux
from armlegs.errors import InvalidFilling, InvalidShape, InvalidSum, InvalidWord, Refused, UnknownName
from armlegs.fill import charges
from armlegs.fill.charges import (
    WAYS, at_letter, charge, charge_rounds, cocharge, cocharge_sum, column_product, hook_sum, row_product, row_word,
)
from armlegs.fill.fillings import shape_sum
from armlegs.fill.triangles import triangle
from armlegs.sums.sums import Sum
from tests.helpers import HOOK, NO_TUPLES, ONE, Q, T, ZERO, all_shapes, brute_tableaux, refuse, sample_sums, value
from tests.test_shapes import EVERY, NO_SHAPES
from tests.test_triangles import NO_SUMS

NO_CHARGED = NO_TUPLES + (
    (), (0,), (2,), (1, 3), (1, 2, 2), (2, 2, 1), (1, 0), (1, -1), (1,) * 13, (1, True), (1, "1"), (1, None), [1, 1],
    (1, 1, 2, 2, 3, 3, 3), (1, 10 ** 59), (10 ** 60, 1), (1, (1,)), (3, 2), (1, 2, 4), (1, ONE), "11", {1: 1}, (HOOK,),
    (1, 2, 3, 4, 5, 6, 7, 8, 9, 10, 11, 12, 13),
)
LONG = (
    tuple(range(1, 13)), tuple(range(12, 0, -1)), (1,) * 12, (1, 2) * 6, (2, 1) * 6, (1, 1, 2, 2, 3, 3) * 2,
    (3, 1, 2, 1, 4, 2, 1, 5, 3, 1, 2, 6), (4, 3, 2, 1, 4, 3, 2, 1, 4, 3, 2, 1), (1, 1, 1, 2, 2, 3, 1, 4, 2, 5, 3, 1),
)
NO_WAYS = (
    None, True, 0, 1, "", "q", "t", "q=0", "Q = 0", "q = 2", "t = 1/q", "q = 1 / t", "q = t", " q = 0", ("q = 0",),
    ["q = 0"], {"q = 0": 1}, WAYS, Q, HOOK, "t = -1",
)


def words_of(size, most):
    """The words of a size that have a charge."""
    found = []
    for word in product(range(1, most + 1), repeat=size):
        counts = [word.count(k) for k in range(1, most + 1)]
        if counts == sorted(counts, reverse=True):
            found.append(word)
    return found


def brute_rounds(word):
    """The takings out, each a list of pairs (place, times gone round): one walks left, and from the end again."""
    left = {place: letter for place, letter in enumerate(word)}
    found = []
    while left:
        taken = []
        at = len(word) - 1
        rounds = 0
        while len(taken) + 1 in left.values():
            while left.get(at) != len(taken) + 1:
                at -= 1
                if at < 0:
                    at = len(word) - 1
                    rounds += 1
            taken.append((at, rounds))
            del left[at]
        found.append(taken)
    return found


def content_of(word):
    return tuple(word.count(k) for k in range(1, max(word) + 1))


def word_of(tableau):
    return tuple(number for row in tableau[::-1] for number in row)


class TestCharges(unittest.TestCase):
    def test_constants(self):
        self.assertEqual(charges.MAX_CHARGED, 12)
        self.assertEqual(WAYS, ("q = 0", "t = 0", "q = 1", "t = 1", "t = 1 / q"))

    def test_by_walks(self):
        for word in [word for size in range(1, 7) for word in words_of(size, size if size < 6 else 4)] + list(LONG):
            right = brute_rounds(word)
            self.assertEqual(charge(word), sum(rounds for taken in right for _, rounds in taken), word)
            self.assertEqual(charge_rounds(word), tuple(tuple(place for place, _ in taken) for taken in right))
            whole = sum(row * many for row, many in enumerate(content_of(word)))
            self.assertEqual(cocharge(word), whole - charge(word))
            self.assertGreaterEqual(cocharge(word), 0)

    def test_known(self):
        self.assertEqual((charge((1,)), charge_rounds((1,)), cocharge((1,))), (0, ((0,),), 0))
        self.assertEqual((charge((1,) * 12), cocharge((1,) * 12)), (0, 0))
        self.assertEqual((charge(LONG[0]), cocharge(LONG[0])), (66, 0))
        self.assertEqual((charge(LONG[1]), cocharge(LONG[1])), (0, 66))
        self.assertEqual(charge_rounds((2, 1, 1, 2, 3)), ((2, 0, 4), (1, 3)))
        self.assertEqual(charge((2, 1, 1, 2, 3)), 2)

    def test_unlike_letters(self):
        for size in range(1, 7):
            for word in permutations(range(1, size + 1)):
                right = sum(size - i for i in range(1, size) if word.index(i + 1) < word.index(i))
                self.assertEqual(cocharge(word), right)

    def test_errors(self):
        for call in (charge, charge_rounds, cocharge):
            for wrong in NO_CHARGED:
                refuse(self, InvalidWord, None, call, wrong)

    def test_row_word(self):
        for shape in EVERY:
            for content in all_shapes(sum(shape)):
                for tableau in brute_tableaux(shape, content) if sum(shape) < 6 else tableaux(shape, content):
                    self.assertEqual(row_word(shape, content, tableau), word_of(tableau))
        self.assertEqual(row_word((1,), (1,), ((1,),)), (1,))
        self.assertEqual(row_word((2, 2), (2, 1, 1), ((1, 1), (2, 3))), (2, 3, 1, 1))

    def test_row_word_errors(self):
        good = ((1, 1), (2,))
        for wrong in NO_SHAPES:
            refuse(self, InvalidShape, None, row_word, wrong, (2, 1), good)
            refuse(self, InvalidShape, None, row_word, (2, 1), wrong, good)
            refuse(self, InvalidShape, None, row_word, wrong, None, None)
            refuse(self, InvalidShape, None, row_word, (2, 1), wrong, None)
        for wrong in NO_TUPLES + (
            (), good[0], [[1, 1], [2]], ([1, 1], (2,)), ((1, 1), [2]), ((1, 1, 2),), ((1, 1),), ((1, 1), (2,), ()),
            ((1, 1), (1,)), ((2, 1), (1,)), ((1, 2), (1,)), ((1, 1), (3,)), ((1, 2), (2,)), ((True, 1), (2,)),
            ((1, True), (2,)), ((1, 1), ("2",)), ((1, 1), (None,)), ((1, 1), 2), (2, (1, 1)), ((2,), (1, 1)),
            ((0, 1), (2,)), ((1, 1), (10 ** 60,)), ((1, 1), (ONE,)), ((1, 1), ((2,),)), ((1, 1), (-2,)), (HOOK, (2,)),
            (((1, 1), (2,)),), ((1, 2), (3,)), "112", ("11", "2"), {0: (1, 1), 1: (2,)}, ((1,), (1,), (2,)),
        ):
            refuse(self, InvalidFilling, None, row_word, (2, 1), (2, 1), wrong)
        refuse(self, InvalidFilling, None, row_word, (1, 1), (2,), ((1,), (1,)))
        refuse(self, InvalidFilling, None, row_word, (2, 2), (2, 2), ((1, 2), (2, 1)))
        refuse(self, InvalidFilling, None, row_word, (3,), (2, 1), ((1, 2, 1),))
        refuse(self, InvalidFilling, None, row_word, (3,), (2, 1), ((2, 1, 1),))
        refuse(self, InvalidFilling, None, row_word, (2, 1), (1, 1, 1), ((2, 1), (3,)))
        refuse(self, InvalidFilling, None, row_word, (2, 2), (1, 1, 1, 1), ((1, 4), (2, 3)))
        for content in ((1,), (2,), (1, 1, 1, 1), (3, 1)):
            refuse(self, InvalidFilling, None, row_word, (2, 1), content, good)


class TestSums(unittest.TestCase):
    def test_cocharge_sum(self):
        for shape in EVERY:
            made = cocharge_sum(shape)
            self.assertEqual(made, at_letter(shape_sum(shape), "q = 0"))
            self.assertEqual(made.with_traded(), at_letter(shape_sum(turned_shape(shape)), "t = 0"))
            self.assertEqual(made.number_at("s", shape), Poly.letter(0, rise(shape)))
            for other in all_shapes(sum(shape)):
                if not is_at_or_above(other, shape):
                    self.assertEqual(made.number_at("s", other), ZERO)
                if sum(shape) < 5:
                    right = ZERO
                    for tableau in brute_tableaux(other, shape):
                        right = right + Poly.letter(0, cocharge(word_of(tableau)))
                    self.assertEqual(made.number_at("s", other), right)

    def test_products(self):
        for shape in EVERY:
            self.assertEqual(row_product(shape), at_letter(shape_sum(shape), "t = 1"))
            self.assertEqual(column_product(shape), at_letter(shape_sum(shape), "q = 1"))
        self.assertEqual(row_product((2, 1)), shape_sum((2,)) * shape_sum((1,)))
        self.assertEqual(column_product((2, 1)), shape_sum((1, 1)) * shape_sum((1,)))
        self.assertEqual(row_product((6,)), shape_sum((6,)))
        self.assertEqual(column_product((1,) * 6), shape_sum((1,) * 6))

    def test_one_row(self):
        for size in range(1, 7):
            for shape in all_shapes(size):
                right = ZERO
                for tableau in tableaux(shape, (1,) * size):
                    row_of = {number: k for k, row in enumerate(tableau) for number in row}
                    right = right + Poly.letter(sum(i for i in range(1, size) if row_of[i + 1] > row_of[i]), 0)
                self.assertEqual(shape_sum((size,)).number_at("s", shape), right)

    def test_hook_sum(self):
        for shape in EVERY:
            made = hook_sum(shape)
            self.assertEqual(made, at_letter(shape_sum(shape), "t = 1 / q"))
            right = Poly.letter(-rise(shape), 0)
            for square in squares_of(shape):
                right = right * (ONE - Poly.letter(hook(shape, square), 0))
            self.assertEqual(triangle(made, "q").numbers("s"), ((shape, right),))
        self.assertEqual(hook_sum((1, 1)).pairs, (((2,), ONE), ((1, 1), Poly.letter(-1, 0))))

    def test_all_letters(self):
        for shape in EVERY:
            both = at_letter(at_letter(shape_sum(shape), "q = 1"), "t = 1")
            self.assertEqual(both, Sum.of_kind("h", (1,) * sum(shape)))

    def test_errors(self):
        for call in (cocharge_sum, row_product, column_product, hook_sum):
            for wrong in NO_SHAPES:
                refuse(self, InvalidShape, None, call, wrong)


class TestAtLetter(unittest.TestCase):
    def test_values(self):
        places = {"q = 1": (1, 3), "t = 1": (3, 1), "t = 1 / q": (2, None)}
        for size in range(7):
            for some in sample_sums(size):
                for way, (q, t) in places.items():
                    made = at_letter(some, way)
                    self.assertEqual(made.size, size)
                    for shape in all_shapes(size):
                        before, after = some.number_at("s", shape), made.number_at("s", shape)
                        if t is None:
                            self.assertEqual(value(after, 2, 1), sum(c * value(Q, 2, 1) ** (i - j)
                                                                     for i, j, c in before.rows))
                        else:
                            self.assertEqual(value(after, q, t), value(before, q, t))
                        lone = [row for row in after.rows if row[0 if way == "q = 1" else 1] != 0]
                        self.assertEqual(lone, [])

    def test_zero(self):
        some = Sum(2, (((2,), ONE + Q - T + Q * T), ((1, 1), Q + Q * T)))
        self.assertEqual(at_letter(some, "q = 0").pairs, (((2,), ONE - T),))
        self.assertEqual(at_letter(some, "t = 0").pairs, (((2,), ONE + Q), ((1, 1), Q)))
        self.assertEqual(at_letter(Sum(2, (((2,), Q - ONE),)), "q = 1"), Sum(2, ()))
        self.assertEqual(at_letter(Sum(2, (((2,), Q * T - ONE),)), "t = 1 / q"), Sum(2, ()))
        self.assertEqual(at_letter(Sum(0, (((), Q + T),)), "q = 0").pairs, (((), T),))
        for way in WAYS:
            self.assertEqual(at_letter(Sum(6, ()), way), Sum(6, ()))

    def test_refused(self):
        some = Sum(3, (((3,), ONE), ((2, 1), T + Poly.letter(0, -1)), ((1, 1, 1), Poly.letter(-2, 0))))
        refuse(self, Refused, ("reason", ("power", (1, 1, 1))), at_letter, some, "q = 0")
        refuse(self, Refused, ("reason", ("power", (2, 1))), at_letter, some, "t = 0")
        for way in WAYS[2:]:
            self.assertEqual(at_letter(some, way).size, 3)
        refuse(self, Refused, ("reason", ("power", ())), at_letter, Sum(0, (((), Poly.letter(1, -1)),)), "t = 0")
        self.assertEqual(at_letter(Sum(0, (((), Poly.letter(1, -1)),)), "q = 0"), Sum(0, ()))
        both = Sum(2, (((2,), Poly.letter(-1, -1)), ((1, 1), Poly.letter(-1, -1))))
        refuse(self, Refused, ("reason", ("power", (2,))), at_letter, both, "q = 0")
        refuse(self, Refused, ("reason", ("power", (2,))), at_letter, both, "t = 0")

    def test_errors(self):
        for wrong in NO_SUMS:
            refuse(self, InvalidSum, None, at_letter, wrong, "q = 0")
            refuse(self, InvalidSum, None, at_letter, wrong, None)
        low = Sum(1, (((1,), Poly.letter(-1, -1)),))
        for wrong in NO_WAYS:
            refuse(self, UnknownName, ("asked", wrong), at_letter, low, wrong)

    def test_not_true(self):
        self.assertNotEqual(charge((1, 2)), charge((2, 1)))
        self.assertNotEqual(cocharge_sum((2, 1)), cocharge_sum((2,)) * cocharge_sum((1,)))
        self.assertNotEqual(cocharge_sum((2, 1)), cocharge_sum((1, 1)) * cocharge_sum((1,)))
        self.assertEqual([number.rows for _, number in shape_sum((2,)).pairs], [((0, 0, 1),), ((1, 0, 1),)])
        self.assertEqual([number.rows for _, number in shape_sum((1, 1)).pairs], [((0, 0, 1),), ((0, 1, 1),)])


if __name__ == "__main__":
    unittest.main()
