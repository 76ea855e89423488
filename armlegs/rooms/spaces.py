"""Spaces of polynomials in pairs of letters: those of all derivatives of a determinant, and the harmonic ones."""

from armlegs.base.checks import is_integer_from
from armlegs.base.parts import arrangements, partitions_of
from armlegs.base.polys import poly_of
from armlegs.base.rows import rows_of_table
from armlegs.base.shapes import check_shape, squares_of
from armlegs.errors import InvalidNumber, InvalidOperation, TooMany
from armlegs.rooms.echelons import are_independent, echelon_of, independent, rest_of
from armlegs.rooms.folds import Fold
from armlegs.rooms.forms import check_degrees, degrees_of, form_of, has_degrees, is_form_within, vector_of
from armlegs.rooms.harmonics import harmonic_half, harmonic_vectors, is_harmonic_vector
from armlegs.rooms.lots import all_derivatives, derivatives_at, renaming_sign
from armlegs.sums.sums import Sum, sum_of

MOST_PAIRS = 4
MOST_TERMS = 2000
LAST_LINE = 3

# How the renamings of n things work on a space is told by how much of it stays, or changes signs, under those within
# blocks. So its dimension is a sum of such numbers: triples (factor, whether signs are turning, blocks), by n.
SHARES = {
    1: ((1, False, (1,)),),
    2: ((1, False, (2,)), (1, True, (2,))),
    3: ((2, False, (2, 1)), (-1, False, (3,)), (1, True, (3,))),
    4: ((2, False, (2, 2)), (1, False, (3, 1)), (-2, False, (4,)), (3, True, (3, 1)), (-2, True, (4,))),
}


def check_pairs(n):
    """Refuse what is no number of pairs of letters."""
    if not is_integer_from(n, 1, MOST_PAIRS):
        raise InvalidNumber(n)


def check_form(n, form):
    """Refuse what is no form in n pairs of letters."""
    if not is_form_within(n, form, MOST_TERMS):
        raise InvalidOperation("this is no form in so many pairs of letters")


def is_near_square(value):
    """Whether the value is a pair of a row and a column from 0 to 3."""
    if not isinstance(value, tuple) or len(value) != 2:
        return False
    return all([is_integer_from(line, 0, LAST_LINE) for line in value])


def check_lot(squares):
    """Refuse what is no lot of squares."""
    if not isinstance(squares, tuple) or not 1 <= len(squares) <= MOST_PAIRS:
        raise InvalidOperation("this is no tuple of one to four squares")
    if not all([is_near_square(square) for square in squares]):
        raise InvalidOperation("a square has no row and column from 0 to 3")
    if not all([squares[k - 1] < squares[k] for k in range(1, len(squares))]):
        raise InvalidOperation("the squares do not ascend")


def determinant(squares):
    """The form that is the determinant of the lot."""
    check_lot(squares)
    many = len(squares)
    pairs = []
    for renaming in arrangements((1,) * many):
        chosen = [squares[k - 1] for k in renaming]
        powers = [column for _, column in chosen] + [row for row, _ in chosen]
        pairs.append((tuple(powers), renaming_sign(renaming)))
    return tuple(sorted(pairs))


def derived(n, form, at):
    """The derivative of the form by one letter, an x for `at` below n, a y from there on."""
    check_pairs(n)
    check_form(n, form)
    if not is_integer_from(at, 0, 2 * n - 1):
        raise InvalidNumber(at)
    return tuple([
        (powers[:at] + (powers[at] - 1,) + powers[at + 1:], c * powers[at])
        for powers, c in form
        if powers[at] > 0
    ])


def degrees_poly(table):
    """The polynomial with the integers of a dict from pairs of degrees."""
    return poly_of(rows_of_table(table))


def both_halves(table):
    """As of `degrees_poly`, for a dict that has just one of (a, b) and (b, a), for which there is one integer."""
    whole = {(b, a): number for (a, b), number in table.items()}
    for degrees, number in table.items():
        whole[degrees] = number
    return degrees_poly(whole)


def space_degrees(squares):
    """The sum of q ** a t ** b for each of as many forms of the space as are independent, by their degrees."""
    form = determinant(squares)
    n = len(squares)
    whole = degrees_of(form[0][0])
    found = all_derivatives(form, n, True)
    table = {degrees: 0 for degrees in found}
    for factor, turning, blocks in SHARES[n]:
        fold = Fold(blocks, turning)
        for degrees in found:
            table[degrees] = table[degrees] + factor * fold.staying_steps(found[degrees])
    for a, b in found:
        table[(whole[0] - a, whole[1] - b)] = table[(a, b)]
    return degrees_poly(table)


def space_sum(shape):
    """The sum that tells how renamings work on the space of the shape."""
    check_shape(shape)
    if sum(shape) > MOST_PAIRS:
        raise TooMany(MOST_PAIRS)
    n = sum(shape)
    found = all_derivatives(determinant(squares_of(shape)), n, False)
    return renamed_sum(n, {degrees: list(steps.values()) for degrees, steps in found.items()}, False)


def renamed_sum(n, spaces, halved):
    """The sum of the size n that tells how renamings work on a space, told as a dict from degrees to vectors.

    Its number of the kind "h" at a shape counts what stays if the things of each of so many blocks are renamed.
    `halved` tells that the dict has just one of (a, b) and (b, a).
    """
    pairs = []
    for blocks in partitions_of(n):
        fold = Fold(blocks, False)
        counts = {degrees: fold.staying(spaces[degrees]) for degrees in spaces}
        pairs.append((blocks, both_halves(counts) if halved else degrees_poly(counts)))
    return Sum.from_numbers("h", n, sum_of(n, pairs).pairs)


def harmonic_degrees(n):
    """As of `space_degrees`, for the harmonic forms in n pairs of letters."""
    check_pairs(n)
    found = harmonic_half(n)
    return both_halves({degrees: len(found[degrees]) for degrees in found})


def harmonic_sum(n):
    """As of `space_sum`, for the harmonic forms in n pairs of letters."""
    check_pairs(n)
    return renamed_sum(n, harmonic_half(n), True)


def is_harmonic(n, value):
    """Whether the value is a harmonic form in n pairs of letters."""
    check_pairs(n)
    return is_form_within(n, value, MOST_TERMS) and is_harmonic_vector(vector_of(value), n)


def are_forms_at(n, degrees, value):
    """Whether the value is a tuple of forms with these degrees."""
    if not isinstance(value, tuple):
        return False
    return all([is_form_within(n, form, MOST_TERMS) and has_degrees(form, degrees) for form in value])


def space_basis(squares, degrees):
    """A tuple of independent forms that make all forms with these degrees in the space of the lot."""
    check_lot(squares)
    check_degrees(degrees)
    n = len(squares)
    return tuple([form_of(vector, n) for vector in independent(derivatives_at(determinant(squares), n, degrees))])


def is_space_basis(squares, degrees, value):
    """Whether the value is such a tuple of forms."""
    check_lot(squares)
    check_degrees(degrees)
    n = len(squares)
    if not are_forms_at(n, degrees, value):
        return False
    echelon = echelon_of(derivatives_at(determinant(squares), n, degrees))
    vectors = [vector_of(form) for form in value]
    if len(vectors) != len(echelon) or any([bool(rest_of(vector, echelon)) for vector in vectors]):
        return False
    return are_independent(vectors)


def harmonic_basis(n, degrees):
    """A tuple of independent forms that make all harmonic forms with these degrees."""
    check_pairs(n)
    check_degrees(degrees)
    return tuple([form_of(vector, n) for vector in harmonic_vectors(n, degrees)])


def is_harmonic_basis(n, degrees, value):
    """Whether the value is such a tuple of forms."""
    check_pairs(n)
    check_degrees(degrees)
    if not are_forms_at(n, degrees, value):
        return False
    vectors = [vector_of(form) for form in value]
    if len(vectors) != len(harmonic_vectors(n, degrees)):
        return False
    return all([is_harmonic_vector(vector, n) for vector in vectors]) and are_independent(vectors)
