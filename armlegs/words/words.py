"""Words, their compositions, and the fundamental sums of compositions."""

from armlegs.base.checks import is_composition_within, is_integer, is_integer_from
from armlegs.base.parts import all_compositions, partitions_of
from armlegs.base.polys import Poly, weighted_sum
from armlegs.base.shapes import check_composition
from armlegs.errors import InvalidNumber, InvalidOperation, InvalidSum, InvalidWord
from armlegs.sums.sums import Sum, sum_of

MAX_WORD_SIZE = 6
MOST_TOLD = 720


def is_word(value):
    """Whether the value is a tuple that has each integer from 1 to its length, at most 6, once."""
    if not isinstance(value, tuple) or len(value) < 1 or len(value) > MAX_WORD_SIZE:
        return False
    return all([is_integer(number) for number in value]) and sorted(value) == list(range(1, len(value) + 1))


def check_word(word):
    """Refuse what is no word."""
    if not is_word(word):
        raise InvalidWord("this is no word")


def check_word_size(size):
    """Refuse what is no size of words."""
    if not is_integer_from(size, 1, MAX_WORD_SIZE):
        raise InvalidNumber(size)


def inverse_descents(word):
    """The ascending tuple of all i such that i + 1 stands to the left of i."""
    check_word(word)
    return tuple([i for i in range(1, len(word)) if word.index(i + 1) < word.index(i)])


def composition_of(word):
    """The composition that the inverse descents tell."""
    marks = inverse_descents(word)
    return tuple([end - start for start, end in zip((0,) + marks, marks + (len(word),))])


def word_of_composition(composition):
    """The told word with this composition: the integers of its last part first."""
    check_composition(composition)
    made = ()
    used = 0
    for part in composition:
        made = tuple(range(used + 1, used + part + 1)) + made
        used = used + part
    return made


def is_finer(one, other):
    """Whether neighbours of the one composition, put together, make the other."""
    check_composition(one)
    check_composition(other)
    return sum(one) == sum(other) and ends_of(one) & ends_of(other) == ends_of(other)


def ends_of(composition):
    """The sums of the first parts, for each number of parts, as the bits of an integer."""
    made = 0
    end = 0
    for part in composition:
        end = end + part
        made = made + (1 << end)
    return made


def are_composition_pairs(size, value):
    """Whether the value is a tuple of pairs of ascending compositions of the size and polynomials other than 0."""
    if not isinstance(value, tuple) or not all([is_composition_pair(size, pair) for pair in value]):
        return False
    return all([value[k - 1][0] < value[k][0] for k in range(1, len(value))])


def is_composition_pair(size, value):
    """Whether the value is a pair of a composition of the size and a polynomial other than 0."""
    if not isinstance(value, tuple) or len(value) != 2:
        return False
    composition, number = value
    return is_composition_within(composition, size, size) and isinstance(number, Poly) and len(number) > 0


def check_fundamental(size, pairs):
    """Refuse what tells no fundamental sum."""
    check_word_size(size)
    if not are_composition_pairs(size, pairs):
        raise InvalidSum("these are no numbers at compositions of the size")


def content_number(size, pairs, composition):
    """The number of a content of the fundamental sum."""
    check_fundamental(size, pairs)
    check_composition(composition)
    if sum(composition) != size:
        raise InvalidOperation("the composition is not one of the size")
    return told_number(ended_pairs(pairs), composition)


def ended_pairs(pairs):
    """The list of the pairs of the ends of a composition and of its number."""
    return [(ends_of(composition), number) for composition, number in pairs]


def told_number(ended, content):
    """The sum of the numbers of all compositions than which the content is finer, told as of `ended_pairs`."""
    within = ends_of(content)
    return weighted_sum([(1, number) for ends, number in ended if ends & within == ends])


def straightened(composition):
    """The pair of the sign and of the shape to which the composition is led, or None."""
    check_composition(composition)
    parts = list(composition)
    sign = 1
    k = 1
    while k < len(parts):
        ahead = parts[k - 1]
        part = parts[k]
        if part == ahead + 1:
            return None
        if part > ahead:
            parts[k - 1] = part - 1
            parts[k] = ahead + 1
            sign = -sign
            k = 1
        else:
            k = k + 1
    return (sign, tuple(parts))


def shape_of_content(content):
    """The shape with the parts of the content."""
    return tuple(sorted(content, reverse=True))


def fundamental_paper(size, pairs):
    """A paper that tells whether the fundamental sum is symmetric: the sum, or two contents that tell it is not."""
    check_fundamental(size, pairs)
    ended = ended_pairs(pairs)
    numbers = {shape: told_number(ended, shape) for shape in partitions_of(size)}
    for content in all_compositions(size):
        shape = shape_of_content(content)
        if content != shape and told_number(ended, content) != numbers[shape]:
            return ("two", shape, content)
    told = [(shape, numbers[shape]) for shape in partitions_of(size)]
    return ("symmetric", Sum.from_numbers("h", size, sum_of(size, told).pairs))


def is_fundamental_paper(size, pairs, value):
    """Whether the value is a correct paper about the fundamental sum."""
    check_fundamental(size, pairs)
    if not isinstance(value, tuple) or len(value) < 2:
        return False
    if value[0] == "symmetric":
        right = fundamental_paper(size, pairs)
        return len(value) == 2 and right[0] == "symmetric" and value[1] == right[1]
    return value[0] == "two" and len(value) == 3 and are_unlike_contents(size, pairs, value[1], value[2])


def are_unlike_contents(size, pairs, one, other):
    """Whether both values are contents with equal parts and unlike numbers."""
    if not is_composition_within(one, size, size) or not is_composition_within(other, size, size):
        return False
    if shape_of_content(one) != shape_of_content(other):
        return False
    ended = ended_pairs(pairs)
    return told_number(ended, one) != told_number(ended, other)


def is_word_pair(size, value):
    """Whether the value is a pair of a word of the size and a polynomial."""
    if not isinstance(value, tuple) or len(value) != 2:
        return False
    return is_word(value[0]) and len(value[0]) == size and isinstance(value[1], Poly)


def pairs_of_words(size, told):
    """The pairs of the fundamental sum of words, each with its polynomial."""
    check_word_size(size)
    if not isinstance(told, tuple) or len(told) > MOST_TOLD or not all([is_word_pair(size, pair) for pair in told]):
        raise InvalidSum("these are no words of the size with their polynomials")
    parts = {}
    for word, number in told:
        parts.setdefault(composition_of(word), []).append((1, number))
    numbers = [(composition, weighted_sum(parts[composition])) for composition in sorted(parts)]
    return tuple([(composition, number) for composition, number in numbers if len(number) > 0])
