"""The five kinds of sums, and products, told by integers at tableau sums."""

from armlegs.base.parts import SHAPES
from armlegs.sums.tables import COMPLETE_ROWS, ELEMENTARY_ROWS, FORGOTTEN_ROWS, MONOMIAL_ROWS, POWER_ROWS, PRODUCTS


def kind_rows(kind, size):
    """For each shape of a size the tableau numbers of the sum of a kind other than "s", all in sequence."""
    if kind == "m":
        return MONOMIAL_ROWS[size]
    if kind == "e":
        return ELEMENTARY_ROWS[size]
    if kind == "h":
        return COMPLETE_ROWS[size]
    return POWER_ROWS[size]


def kind_row(kind, shape):
    """The tableau numbers of the sum of a kind other than "s" for a shape."""
    size = sum(shape)
    return kind_rows(kind, size)[SHAPES[size].index(shape)]


def opposite_rows(kind, size):
    """For each shape of a size the tableau numbers of a sum.

    A sum whose numbers of the kind, one of "m", "e" and "h", are told is the sum of these numbers times these sums.
    """
    if kind == "h":
        return MONOMIAL_ROWS[size]
    if kind == "e":
        return FORGOTTEN_ROWS[size]
    return COMPLETE_ROWS[size]


def product_pairs(one, other):
    """The pairs (shape, how often) of the tableau sums that make the product of those for two shapes."""
    if one == () or other == ():
        return ((one + other, 1),)
    if (one, other) in PRODUCTS:
        return PRODUCTS[(one, other)]
    return PRODUCTS[(other, one)]
