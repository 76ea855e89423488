"""Arcs between things that stand in a row, and the sums of their colourings."""

from armlegs.base.checks import is_integer_from
from armlegs.base.colourings import FIELD_BITS, counted_colourings
from armlegs.base.packs import unpacked
from armlegs.base.parts import SHAPES
from armlegs.base.polys import Poly, poly_of, quotient_of
from armlegs.errors import InvalidNumber, InvalidPath, InvalidWord, Refused
from armlegs.sums.letters import times_letters
from armlegs.sums.sums import Sum, check_sum, sum_of

MOST_THINGS = 6
MOST_COLOURS = 6


def check_spans(spans):
    """Refuse what is no tuple of spans."""
    if not is_spans(spans):
        raise InvalidPath("these are no spans of one to six things")


def check_colours(spans, colours):
    """Refuse what is no colouring of the things that have these spans."""
    if not isinstance(colours, tuple) or len(colours) != len(spans):
        raise InvalidWord("this is no tuple of a colour for each thing")
    if not all([is_integer_from(colour, 1, MOST_COLOURS) for colour in colours]):
        raise InvalidWord("a colour is no integer from 1 to 6")


def spans_of(number):
    """The ascending tuple of all spans of so many things."""
    if not is_integer_from(number, 1, MOST_THINGS):
        raise InvalidNumber(number)
    begun = [()]
    for thing in range(1, number + 1):
        begun = [spans + (span,) for spans in begun for span in range(max(spans + (thing,)), number + 1)]
    return tuple(begun)


def is_spans(value):
    """Whether the value is a tuple of spans of one to six things."""
    if not isinstance(value, tuple) or not 1 <= len(value) <= MOST_THINGS:
        return False
    if not all([is_integer_from(span, k + 1, len(value)) for k, span in enumerate(value)]):
        return False
    return all([value[k - 1] <= value[k] for k in range(1, len(value))])


def arcs_of(spans):
    """The ascending tuple of the pairs (i, j) with i < j, j not beyond the span of i."""
    check_spans(spans)
    return tuple([(k + 1, j) for k, span in enumerate(spans) for j in range(k + 2, span + 1)])


def turned_spans(spans):
    """The spans with the arcs (n + 1 - j, n + 1 - i) for all arcs (i, j)."""
    check_spans(spans)
    many = len(spans)
    short = [len([span for span in spans if span < thing]) for thing in range(many, 0, -1)]
    return tuple([many - less for less in short])


def rises_of(spans, colours):
    """How many arcs have a lesser colour at their first end."""
    check_spans(spans)
    check_colours(spans, colours)
    return len([1 for i, j in arcs_of(spans) if colours[i - 1] < colours[j - 1]])


def is_proper(spans, colours):
    """Whether the two ends of each arc have unlike colours."""
    check_spans(spans)
    check_colours(spans, colours)
    return all([colours[i - 1] != colours[j - 1] for i, j in arcs_of(spans)])


def colour_sum(spans):
    """The sum whose number of the kind "h" at a shape counts the colourings with these many things of each colour."""
    check_spans(spans)
    return sum_of_colourings(spans, False)


def proper_sum(spans):
    """As of `colour_sum`, of the proper colourings alone."""
    check_spans(spans)
    return sum_of_colourings(spans, True)


def sum_of_colourings(spans, proper):
    """The sum with the told numbers of all colourings, or of the proper ones alone."""
    size = len(spans)
    ends = [(1 << span) - (1 << (k + 1)) for k, span in enumerate(spans)]
    counted = counted_colourings(ends, [0] * size, proper, FIELD_BITS)
    told = [(shape, poly_of(unpacked(counted.get(shape, 0), (0, 0), 1, FIELD_BITS))) for shape in SHAPES[size]]
    return Sum.from_numbers("h", size, sum_of(size, told).pairs)


def proper_from(f):
    """The sum in letters times q - 1, each number divided by (q - 1) ** n, n being the size."""
    check_sum(f)
    step = Poly.letter(1, 0) - Poly.number(1)
    bottom = step.power(f.size)
    pairs = [(shape, quotient_of(number, bottom)) for shape, number in times_letters(f, step).pairs]
    if not all([share is not None for _, share in pairs]):
        raise Refused(("rest",))
    return sum_of(f.size, pairs)


def three_spans(spans, number):
    """The spans with that of one thing one less, and one more, if these three go together; otherwise None."""
    check_spans(spans)
    if not is_integer_from(number, 1, len(spans)):
        raise InvalidNumber(number)
    span = spans[number - 1]
    if not number < span < len(spans) or spans[span - 1] != spans[span]:
        return None
    lower = spans[:number - 1] + (span - 1,) + spans[number:]
    higher = spans[:number - 1] + (span + 1,) + spans[number:]
    if not is_spans(lower) or not is_spans(higher):
        return None
    return (lower, higher)
