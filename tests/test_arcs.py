"""Arcs, and sums of colourings: [16.1] to [16.6]."""

import unittest
from itertools import permutations, product

from armlegs.arcs import arcs
from armlegs.arcs.arcs import (
    arcs_of, colour_sum, is_proper, is_spans, proper_from, proper_sum, rises_of, spans_of, three_spans, turned_spans,
)
from armlegs.base.polys import Poly
from armlegs.errors import InvalidNumber, InvalidPath, InvalidSum, InvalidWord, Refused
from armlegs.fill.fillings import shape_sum
from armlegs.sums.letters import times_letters
from armlegs.sums.sums import Sum
from tests.helpers import HOOK, NO_INTEGERS, NO_TUPLES, ONE, Q, all_contents, all_shapes, refuse, sample_sums
from tests.test_triangles import EMPTY, NO_SUMS

SIZES = range(1, 7)
SMALL = [spans for size in range(1, 5) for spans in spans_of(size)]
NO_SPANS = tuple(wrong for wrong in NO_TUPLES if wrong != (1,)) + (
    (), (0,), (2,), (1, 1), (2, 1), (1, 3), (3, 3), (2, 2, 2), (2, 1, 3), (3, 2, 3), (1, 2, 2), (1, 2, 3, 3), (7,) * 7,
    (6,) * 7, (1, 2, 3, 4, 5, 6, 7), (1, True), (True,), (True, 2), (1, "2"), (1, None), (1, (2,)), [1], [1, 2], "12",
    {0: 1}, {1: 1, 2: 2}, ((1, 2),), (HOOK,), (ONE,), (1, 10 ** 60), (-1,), (1, -2),
)
# No one of these is a colouring of two things.
NO_COLOURS = (
    None, True, False, 0, 1, 12, "", "12", (), (1,), (1, 2, 3), [1, 2], {0: 1, 1: 2}, (0, 1), (1, 0), (7, 1), (1, 7),
    (-1, 1), (1, True), (True, 1), (1, None), (1, "1"), (1, (1,)), ((1, 2),), (1, 10 ** 60), (ONE, ONE), ONE, HOOK,
)


def brute_spans(size):
    return sorted(
        row for row in product(range(1, size + 1), repeat=size)
        if all(span >= k + 1 for k, span in enumerate(row)) and list(row) == sorted(row)
    )


def brute_arcs(spans):
    size = len(spans)
    return tuple((i, j) for i in range(1, size + 1) for j in range(1, size + 1) if i < j <= spans[i - 1])


def brute_number(spans, content, proper):
    """The sum of q ** rises over all colourings with a content."""
    made = {}
    word = [k + 1 for k, many in enumerate(content) for _ in range(many)]
    for colours in set(permutations(word)):
        ends = [(colours[i - 1], colours[j - 1]) for i, j in brute_arcs(spans)]
        if not proper or all(low != high for low, high in ends):
            rises = sum(low < high for low, high in ends)
            made[rises] = made.get(rises, 0) + 1
    return Poly(tuple((rises, 0, made[rises]) for rises in sorted(made)))


def q_number(many):
    return Poly(tuple((k, 0, 1) for k in range(many)))


class TestArcs(unittest.TestCase):
    def test_constants(self):
        self.assertEqual((arcs.MOST_THINGS, arcs.MOST_COLOURS), (6, 6))

    def test_spans(self):
        for size in range(1, 6):
            self.assertEqual(spans_of(size), tuple(brute_spans(size)))
        self.assertEqual([len(spans_of(size)) for size in SIZES], [1, 2, 5, 14, 42, 132])
        for size in SIZES:
            self.assertEqual(list(spans_of(size)), sorted(set(spans_of(size))))
            for spans in spans_of(size):
                self.assertIs(is_spans(spans), True)
        for row in product(range(5), repeat=3):
            self.assertIs(is_spans(row), row in spans_of(3))
        for wrong in NO_SPANS:
            self.assertIs(is_spans(wrong), False)
        for wrong in NO_INTEGERS + (0, 7, -1):
            refuse(self, InvalidNumber, ("given", wrong), spans_of, wrong)

    def test_span_errors(self):
        for wrong in NO_SPANS:
            for call in (arcs_of, turned_spans, colour_sum, proper_sum):
                refuse(self, InvalidPath, None, call, wrong)
            for call in (rises_of, is_proper):
                refuse(self, InvalidPath, None, call, wrong, (1,))
                refuse(self, InvalidPath, None, call, wrong, None)
            refuse(self, InvalidPath, None, three_spans, wrong, 1)
            refuse(self, InvalidPath, None, three_spans, wrong, None)

    def test_arcs(self):
        for size in SIZES:
            for spans in spans_of(size):
                made = brute_arcs(spans)
                self.assertEqual(arcs_of(spans), made)
                turned = turned_spans(spans)
                self.assertIs(is_spans(turned), True)
                self.assertEqual(brute_arcs(turned), tuple(sorted((size + 1 - j, size + 1 - i) for i, j in made)))
                self.assertEqual(turned_spans(turned), spans)
        self.assertEqual(arcs_of((1,)), ())
        self.assertEqual(turned_spans((1, 3, 3)), (2, 2, 3))

    def test_colourings(self):
        for spans in SMALL:
            size = len(spans)
            for colours in product((1, 2, 3, 6), repeat=size):
                ends = [(colours[i - 1], colours[j - 1]) for i, j in brute_arcs(spans)]
                self.assertEqual(rises_of(spans, colours), sum(low < high for low, high in ends))
                self.assertIs(is_proper(spans, colours), all(low != high for low, high in ends))
        self.assertEqual(rises_of((6,) * 6, (1, 2, 3, 4, 5, 6)), 15)
        self.assertEqual(rises_of((6,) * 6, (6, 5, 4, 3, 2, 1)), 0)

    def test_colour_errors(self):
        for call in (rises_of, is_proper):
            for wrong in NO_COLOURS:
                refuse(self, InvalidWord, None, call, (2, 2), wrong)
                refuse(self, InvalidWord, None, call, (1, 2), wrong)

    def test_sums(self):
        told = SMALL + [(2, 4, 4, 5, 5), (3, 3, 5, 5, 5), (1, 2, 3, 4, 5), (5,) * 5, (6,) * 6, (3, 4, 4, 6, 6, 6)]
        for spans in told:
            size = len(spans)
            for call, proper in ((colour_sum, False), (proper_sum, True)):
                made = call(spans)
                self.assertEqual(made.size, size)
                for shape in all_shapes(size):
                    self.assertEqual(made.number_at("h", shape), brute_number(spans, shape, proper))
        for size in SIZES:
            for spans in spans_of(size)[::9]:
                for made, proper in ((colour_sum(spans), False), (proper_sum(spans), True)):
                    shape = all_shapes(size)[-2:][0]
                    self.assertEqual(made.number_at("h", shape), brute_number(spans, shape, proper))

    def test_symmetry(self):
        for spans in SMALL:
            size = len(spans)
            for content in all_contents(size, size):
                shape = tuple(sorted([part for part in content if part], reverse=True))
                for proper in (False, True):
                    self.assertEqual(brute_number(spans, content, proper), brute_number(spans, shape, proper))

    def test_all_arcs(self):
        for size in SIZES:
            self.assertEqual(colour_sum((size,) * size), shape_sum((size,)))
            number = ONE
            for k in range(1, size + 1):
                number = number * q_number(k)
            self.assertEqual(proper_sum((size,) * size), Sum.of_kind("e", (size,)).times(number))
            self.assertEqual(colour_sum(tuple(range(1, size + 1))), Sum.of_kind("e", (1,) * size))

    def test_products(self):
        for size in range(2, 6):
            for spans in spans_of(size):
                for i in range(1, size):
                    if spans[i - 1] == i:
                        first, others = spans[:i], tuple(span - i for span in spans[i:])
                        for call in (colour_sum, proper_sum):
                            self.assertEqual(call(spans), call(first) * call(others))

    def test_turned(self):
        for size in range(1, 6):
            for spans in spans_of(size):
                for call in (colour_sum, proper_sum):
                    self.assertEqual(call(turned_spans(spans)), call(spans))
                made = proper_sum(spans)
                for kind in ("s", "h", "m"):
                    for shape, number in made.numbers(kind):
                        self.assertEqual(number.inverted().shifted(len(arcs_of(spans)), 0), number)

    def test_proper_from(self):
        for spans in SMALL + list(spans_of(5))[::5] + list(spans_of(6))[::30]:
            self.assertEqual(proper_from(colour_sum(spans)), proper_sum(spans))
        self.assertEqual(proper_from(EMPTY), EMPTY)
        self.assertEqual(proper_from(EMPTY.times(Q)), EMPTY.times(Q))
        self.assertEqual(proper_from(Sum(0, ())), Sum(0, ()))
        self.assertEqual(proper_from(Sum(4, ())), Sum(4, ()))
        for size in SIZES:
            for some in sample_sums(size):
                bottom = (Q - ONE).power(size)
                told = [(shape, number) for shape, number in times_letters(some, Q - ONE).pairs]
                try:
                    right = Sum(size, tuple((shape, number.over(bottom)) for shape, number in told))
                    self.assertEqual(proper_from(some), right)
                except Refused:
                    refuse(self, Refused, ("reason", ("rest",)), proper_from, some)
        refuse(self, Refused, ("reason", ("rest",)), proper_from, Sum.of_kind("s", (2,)))
        refuse(self, Refused, ("reason", ("rest",)), proper_from, Sum.of_kind("p", (3,)))
        for wrong in NO_SUMS:
            refuse(self, InvalidSum, None, proper_from, wrong)

    def test_three_spans(self):
        found = 0
        for size in SIZES:
            every = spans_of(size)
            for spans in every:
                for number in range(1, size + 1):
                    h = spans[number - 1]
                    right = None
                    if number + 1 <= h <= size - 1 and spans[h - 1] == spans[h]:
                        lower = spans[:number - 1] + (h - 1,) + spans[number:]
                        higher = spans[:number - 1] + (h + 1,) + spans[number:]
                        if lower in every and higher in every:
                            right = (lower, higher)
                    self.assertEqual(three_spans(spans, number), right)
                    if right is not None and size < 6:
                        found += 1
                        for call in (colour_sum, proper_sum):
                            both = call(right[0]).times(Q) + call(right[1])
                            self.assertEqual(call(spans).times(ONE + Q), both)
        self.assertGreater(found, 20)
        self.assertEqual(three_spans((2, 3, 3), 1), ((1, 3, 3), (3, 3, 3)))
        self.assertIs(three_spans((1, 2), 1), None)
        for wrong in NO_INTEGERS + (0, 4, -1, 7):
            refuse(self, InvalidNumber, ("given", wrong), three_spans, (2, 3, 3), wrong)

    def test_not_true(self):
        made = colour_sum((2, 2))
        self.assertNotEqual([number.inverted().shifted(1, 0) for _, number in made.pairs],
                            [number for _, number in made.pairs])
        one, other = (1, 2, 4, 4), (1, 3, 3, 4)
        self.assertEqual(proper_sum(one), proper_sum(other))
        self.assertNotIn(other, (one, turned_spans(one)))
        led = Sum.of_kind("s", (1,)).times(Q)
        self.assertEqual(proper_from(led), led)
        self.assertNotIn(led, [colour_sum(spans) for spans in spans_of(1)])


if __name__ == "__main__":
    unittest.main()
