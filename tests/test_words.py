"""Words and their sums: [6.1] to [6.7]."""

import unittest
from itertools import permutations

from armlegs.base.polys import Poly
from armlegs.base.shapes import compositions_of, shapes_of
from armlegs.errors import InvalidNumber, InvalidOperation, InvalidShape, InvalidSum, InvalidWord
from armlegs.sums.sums import Sum
from armlegs.words import words
from armlegs.words.words import (
    composition_of, content_number, fundamental_paper, inverse_descents, is_finer, is_fundamental_paper, is_word,
    pairs_of_words, straightened, word_of_composition,
)
from tests.helpers import HOOK, NO_INTEGERS, NO_TUPLES, ONE, Q, T, ZERO, refuse, sample_sums

SIZES = range(1, 7)
EVERY = [composition for size in SIZES for composition in compositions_of(size)]
NO_COMPOSITIONS = NO_TUPLES + ((), (0,), (7,), (1, 0), (0, 1), (3, 4), (1,) * 7)
NO_WORDS = (
    None, True, 0, 1, "", "1", "12", (), [], [1], [2, 1], {1: 1}, ONE, HOOK, (0,), (2,), (1, 1), (1, 3), (0, 1),
    (True,), (2, True), (1, 2, 2), (1, 2, "3"), (1, 2, None), (1, (2,)), (1, 2, 3, 4, 5, 6, 7), (-1, 1), (10 ** 60,),
    ([1],), (1, ONE), (1, 2, 4),
)


def finer(one, other):
    """Whether the parts of the one can be put together to those of the other, part by part."""
    if not other:
        return not one
    return any(sum(one[:k]) == other[0] and finer(one[k:], other[1:]) for k in range(1, len(one) + 1))


def told_content(pairs, content):
    made = ZERO
    for composition, number in pairs:
        if finer(content, composition):
            made = made + number
    return made


def led_on(composition):
    """As of straightened, but from the end, and as a set of all that can come of it."""
    spots = [k for k in range(len(composition) - 1) if composition[k] < composition[k + 1]]
    if not spots:
        return {(1, composition)}
    found = set()
    for k in spots:
        a, b = composition[k], composition[k + 1]
        if b == a + 1:
            found.add(None)
        else:
            for made in led_on(composition[:k] + (b - 1, a + 1) + composition[k + 2:]):
                found.add(None if made is None else (-made[0], made[1]))
    return found


def pairs_of_sum(some):
    """The pairs whose fundamental sum is this one: the numbers of standard tableaux by their descents."""
    contents = sorted(compositions_of(some.size), key=lambda told: (len(told), told))
    numbers = dict(some.numbers("h"))
    found = {}
    for content in contents:
        made = numbers.get(tuple(sorted(content, reverse=True)), ZERO)
        for other in found:
            if finer(content, other):
                made = made - found[other]
        found[content] = made
    return tuple((content, found[content]) for content in sorted(found) if found[content] != ZERO)


class TestWords(unittest.TestCase):
    def test_constant(self):
        self.assertEqual(words.MAX_WORD_SIZE, 6)

    def test_is_word(self):
        for size in SIZES:
            for word in permutations(range(1, size + 1)):
                self.assertIs(is_word(word), True)
        self.assertIs(is_word((1, 2, 3, 4, 5, 6, 7)), False)
        for wrong in NO_WORDS + NO_TUPLES:
            self.assertIs(is_word(wrong), False, wrong)

    def test_inverse_descents(self):
        for size in SIZES:
            for word in permutations(range(1, size + 1)):
                right = []
                for i in range(1, size):
                    for at in word:
                        if at in (i, i + 1):
                            right = right + [i] if at == i + 1 else right
                            break
                self.assertEqual(inverse_descents(word), tuple(right))
                ends = right + [size]
                parts = [ends[0]] + [ends[k] - ends[k - 1] for k in range(1, len(ends))]
                self.assertEqual(composition_of(word), tuple(parts))

    def test_word_of_composition(self):
        for composition in EVERY:
            word = word_of_composition(composition)
            self.assertIs(is_word(word), True)
            self.assertEqual(composition_of(word), composition)
            numbers = list(range(1, sum(composition) + 1))
            right = []
            for part in reversed(composition):
                right = right + numbers[-part:]
                numbers = numbers[:-part]
            self.assertEqual(word, tuple(right))
        self.assertEqual(word_of_composition((3,)), (1, 2, 3))
        self.assertEqual(word_of_composition((1, 1, 1)), (3, 2, 1))
        self.assertEqual(word_of_composition((2, 3, 1)), (6, 3, 4, 5, 1, 2))

    def test_is_finer(self):
        for one in EVERY:
            for other in EVERY:
                self.assertIs(is_finer(one, other), finer(one, other))
            self.assertIs(is_finer(one, one), True)
        self.assertIs(is_finer((1, 1), (1,)), False)
        self.assertIs(is_finer((2, 1, 1), (2,)), False)
        self.assertIs(is_finer((2,), (2, 1)), False)

    def test_straightened(self):
        for composition in EVERY:
            self.assertEqual({straightened(composition)}, led_on(composition))
        self.assertEqual(straightened((1, 3)), (-1, (2, 2)))
        self.assertIs(straightened((1, 2)), None)
        self.assertEqual(straightened((2, 1)), (1, (2, 1)))
        self.assertEqual(straightened((1, 1, 4)), (1, (2, 2, 2)))
        self.assertIsInstance(straightened((1, 3))[1], tuple)

    def test_errors(self):
        for call in (inverse_descents, composition_of):
            for wrong in NO_WORDS:
                refuse(self, InvalidWord, None, call, wrong)
        for call in (word_of_composition, straightened):
            for wrong in NO_COMPOSITIONS:
                refuse(self, InvalidShape, None, call, wrong)
        for wrong in NO_COMPOSITIONS:
            refuse(self, InvalidShape, None, is_finer, wrong, (1,))
            refuse(self, InvalidShape, None, is_finer, (1,), wrong)
            refuse(self, InvalidShape, None, is_finer, wrong, wrong)


class TestFundamental(unittest.TestCase):
    def samples(self):
        numbers = (ONE, Q - T, -ONE, Poly.letter(-1, 1), Q * T)
        found = []
        for size in SIZES:
            told = sorted(compositions_of(size))
            found.append((size, ()))
            found.append((size, tuple((part, numbers[k % 5]) for k, part in enumerate(told))))
            found.append((size, tuple((part, numbers[k % 3]) for k, part in enumerate(told) if k % 3 == 1)))
            found.append((size, tuple((part, ONE) for part in told)))
            found.append((size, ((told[len(told) // 2], Q),)))
        for size in SIZES:
            for some in sample_sums(size):
                found.append((size, pairs_of_sum(some)))
        return found

    def test_content_number(self):
        for size, pairs in self.samples():
            for content in compositions_of(size):
                self.assertEqual(content_number(size, pairs, content), told_content(pairs, content))
        self.assertEqual(content_number(2, (((2,), Q),), (1, 1)), Q)
        self.assertEqual(content_number(2, (((1, 1), Q),), (2,)), ZERO)
        self.assertEqual(content_number(3, (((1, 2), Q), ((2, 1), T), ((3,), ONE)), (1, 2)), ONE + Q)

    def is_symmetric(self, size, pairs):
        numbers = {}
        for content in compositions_of(size):
            shape = tuple(sorted(content, reverse=True))
            numbers.setdefault(shape, set()).add(told_content(pairs, content).rows)
        return all(len(told) == 1 for told in numbers.values())

    def test_papers(self):
        kinds = []
        for size, pairs in self.samples():
            paper = fundamental_paper(size, pairs)
            self.assertIsInstance(paper, tuple)
            self.assertIs(is_fundamental_paper(size, pairs, paper), True)
            kinds.append(paper[0])
            self.assertEqual(paper[0] == "symmetric", self.is_symmetric(size, pairs))
            if paper[0] == "symmetric":
                self.assertEqual(len(paper), 2)
                self.assertEqual(paper[1].size, size)
                for content in compositions_of(size):
                    shape = tuple(sorted(content, reverse=True))
                    self.assertEqual(paper[1].number_at("h", shape), told_content(pairs, content))
                self.check_straightened(size, pairs, paper[1])
            else:
                self.assertEqual((paper[0], len(paper)), ("two", 3))
                self.assertEqual(sorted(paper[1]), sorted(paper[2]))
                self.assertNotEqual(told_content(pairs, paper[1]), told_content(pairs, paper[2]))
        self.assertGreater(kinds.count("two"), 5)
        self.assertGreater(kinds.count("symmetric"), 20)

    def check_straightened(self, size, pairs, some):
        numbers = {shape: ZERO for shape in shapes_of(size)}
        for composition, number in pairs:
            led = straightened(composition)
            if led is not None:
                numbers[led[1]] = numbers[led[1]] + number * Poly.number(led[0])
        for shape in numbers:
            self.assertEqual(some.number_at("s", shape), numbers[shape])

    def test_sums_there_and_back(self):
        for size in SIZES:
            for some in sample_sums(size):
                self.assertEqual(fundamental_paper(size, pairs_of_sum(some)), ("symmetric", some))

    def test_each_correct_paper(self):
        for size, pairs in self.samples():
            if size > 5:
                continue
            told = compositions_of(size)
            for one in told:
                for other in told:
                    right = sorted(one) == sorted(other) and told_content(pairs, one) != told_content(pairs, other)
                    self.assertIs(is_fundamental_paper(size, pairs, ("two", one, other)), right)
            for some in sample_sums(size):
                right = fundamental_paper(size, pairs) == ("symmetric", some)
                self.assertIs(is_fundamental_paper(size, pairs, ("symmetric", some)), right)

    def test_wrong_papers(self):
        pairs = (((1, 2), ONE),)
        self.assertIs(is_fundamental_paper(3, pairs, ("two", (1, 2), (2, 1))), True)
        self.assertIs(is_fundamental_paper(3, pairs, ("two", (2, 1), (1, 2))), True)
        good = (((2, 1), ONE), ((1, 2), ONE))[::-1]
        some = Sum.of_kind("s", (2, 1))
        self.assertIs(is_fundamental_paper(3, good, ("symmetric", some)), True)
        for told in (pairs, good):
            for wrong in NO_TUPLES + (
                (), ("two",), ("symmetric",), ("two", (1, 2)), ("two", (1, 2), (2, 1), (2, 1)), ["two", (1, 2), (2, 1)],
                ("two", [1, 2], [2, 1]), ("two", (True, 2), (2, True)), ("two", (1, 2), (2, True)),
                ("two", (1, 2), (1, 2)), ("two", (1, 2), (1, 1, 1)), ("two", (1, 2), (2, 1, 0)), ("two", (1, 1), (2,)),
                ("two", (1, 3), (3, 1)), ("two", None, None), ("two", 1, 2), ("three", (1, 2), (2, 1)),
                ("Two", (1, 2), (2, 1)), ("symmetric", None), ("symmetric", 1), ("symmetric", ONE), ("symmetric", HOOK),
                ("symmetric", some, some), ["symmetric", some], ("symmetric", some.pairs), (some, "symmetric"),
                ("symmetric", Sum.of_kind("s", (3,))), ("symmetric", Sum(2, ())), ("symmetric", (some,)),
                ("two", None, (2, 1)), ("two", (1, 2), None), ("two", [1, 2], (2, 1)), ("two", (True, 2), (2, 1)),
                ("two", (2, 1), (True, 2)), ("two", 3, (2, 1)), ("two", ONE, (2, 1)), ("two", (1, 2, 0), (2, 1)),
                ("symmetric", (2, 1)), ("symmetric", (1, 2)), (["symmetric"], some), ("", some), (None, some),
                (ONE, some), (("two", (1, 2), (2, 1)),), (True, some), ("two", (1, 2), HOOK), ("two", "12", "21"),
            ):
                self.assertIs(is_fundamental_paper(3, told, wrong), False, wrong)
        self.assertIs(is_fundamental_paper(3, pairs, ("symmetric", some)), False)
        self.assertIs(is_fundamental_paper(3, good, ("two", (1, 2), (2, 1))), False)
        self.assertIs(is_fundamental_paper(3, (), ("symmetric", Sum(3, ()))), True)

    def test_errors(self):
        calls = (
            lambda size, pairs: content_number(size, pairs, None), fundamental_paper,
            lambda size, pairs: is_fundamental_paper(size, pairs, None),
        )
        for call in calls:
            for wrong in NO_INTEGERS + (0, 7, -1):
                refuse(self, InvalidNumber, ("given", wrong), call, wrong, ())
                refuse(self, InvalidNumber, ("given", wrong), call, wrong, None)
            for wrong in NO_PAIRS:
                refuse(self, InvalidSum, None, call, 2, wrong)
        for wrong in NO_COMPOSITIONS:
            refuse(self, InvalidShape, None, content_number, 2, (), wrong)
        for composition in EVERY:
            if sum(composition) != 3:
                refuse(self, InvalidOperation, None, content_number, 3, (), composition)

    def test_pairs_of_words(self):
        told = (((2, 1), Q), ((1, 2), T), ((2, 1), T))
        self.assertEqual(pairs_of_words(2, told), (((1, 1), Q + T), ((2,), T)))
        self.assertEqual(pairs_of_words(2, told + (((1, 2), -T),)), (((1, 1), Q + T),))
        self.assertEqual(pairs_of_words(2, ()), ())
        self.assertEqual(pairs_of_words(1, (((1,), ZERO),)), ())
        self.assertEqual(pairs_of_words(3, (((2, 3, 1), Q), ((2, 1, 3), -Q))), ())
        for size in SIZES:
            told = []
            right = {}
            for k, word in enumerate(permutations(range(size, 0, -1))):
                number = (Q, T - ONE, Poly.letter(-1, 0), ZERO)[k % 4]
                told.append((word, number))
                at = composition_of(word)
                right[at] = right.get(at, ZERO) + number
            made = pairs_of_words(size, tuple(told))
            self.assertEqual(made, tuple((at, right[at]) for at in sorted(right) if right[at] != ZERO))
            self.assertEqual(pairs_of_words(size, tuple(told[::-1])), made)
            self.assertIn(fundamental_paper(size, made)[0], ("two", "symmetric"))

    def test_all_words(self):
        for size in SIZES:
            told = tuple((word, ONE) for word in permutations(range(1, size + 1)))
            made = fundamental_paper(size, pairs_of_words(size, told))
            self.assertEqual(made, ("symmetric", Sum.of_kind("h", (1,) * size)))

    def test_pairs_of_words_errors(self):
        for wrong in NO_INTEGERS + (0, 7, -1):
            refuse(self, InvalidNumber, ("given", wrong), pairs_of_words, wrong, ())
            refuse(self, InvalidNumber, ("given", wrong), pairs_of_words, wrong, None)
        one = ((2, 1), Q)
        self.assertEqual(pairs_of_words(2, (one,) * 720), (((1, 1), Poly.number(720) * Q),))
        refuse(self, InvalidSum, None, pairs_of_words, 2, (one,) * 721)
        for word in NO_WORDS + ((1,), (1, 2, 3)):
            refuse(self, InvalidSum, None, pairs_of_words, 2, ((word, Q),))
            refuse(self, InvalidSum, None, pairs_of_words, 2, (one, (word, Q)))
        for wrong in NO_TUPLES + ([one], (list(one),), ((one[0], Q, Q),), ((one[0],),), (one, None), one):
            if wrong != ():
                refuse(self, InvalidSum, None, pairs_of_words, 2, wrong)
        for wrong in NO_INTEGERS:
            if not isinstance(wrong, Poly):
                refuse(self, InvalidSum, None, pairs_of_words, 2, (((2, 1), wrong),))

    def test_not_true(self):
        told = []
        for word in ((2, 1, 3), (2, 3, 1)):
            told.append((composition_of(word), [k for k in range(2) if word[k] > word[k + 1]]))
        self.assertEqual(told, [((1, 2), [0]), ((1, 2), [1])])
        pairs = (((1, 3), ONE),)
        self.assertEqual((fundamental_paper(4, pairs)[0], straightened((1, 3))), ("two", (-1, (2, 2))))
        self.assertEqual(content_number(3, (((1, 2), ONE), ((2, 1), ONE)), (1, 1, 1)),
                         content_number(3, (((1, 2), Poly.number(2)),), (1, 1, 1)))
        self.assertEqual(fundamental_paper(3, (((1, 2), ONE), ((2, 1), ONE)))[0], "symmetric")
        self.assertEqual(fundamental_paper(3, (((1, 2), Poly.number(2)),))[0], "two")


NO_PAIRS = tuple(wrong for wrong in NO_TUPLES if wrong != ()) + (
    [((2,), ONE)], ([(2,), ONE],), (((2,), ONE, ONE),), (((2,),),), (((2,), 1),), (((2,), ZERO),), (((3,), ONE),),
    (((), ONE),), (((1,), ONE),), (([2], ONE),), (((2,), ONE), ((2,), ONE)), (((2,), ONE), ((1, 1), ONE)),
    (((1, 1), ONE), ((2,), ZERO)), (((1, 1), ONE), None), ((ONE, (2,)),), (((True, True), ONE),), (((1, True), ONE),),
    (((2,), HOOK),), ((2,), ONE), (((1, 1), T), ((1, 1), ONE), ((2,), Q)), {(2,): ONE}, (((2, 0), ONE),),
)


if __name__ == "__main__":
    unittest.main()
