"""Charges of words, and the sums of shapes with one letter alone."""

from armlegs.base.checks import is_integer, is_integer_from
from armlegs.base.parts import parts_rise, partitions_of, turned_parts
from armlegs.base.polys import Poly, poly_of
from armlegs.base.rows import least_power, rows_of_table
from armlegs.base.shapes import check_shape
from armlegs.base.traces import tableaux
from armlegs.errors import InvalidFilling, InvalidWord, Refused, UnknownName
from armlegs.fill.fillings import shape_sum
from armlegs.sums.sums import Sum, check_sum, sum_of

MAX_CHARGED = 12
WAYS = ("q = 0", "t = 0", "q = 1", "t = 1", "t = 1 / q")


def content_of(word):
    """How often 1, 2, and so on stand in a tuple of integers from 1 on."""
    return tuple([word.count(k) for k in range(1, max(word) + 1)])


def check_charged(word):
    """Refuse what is no word that has a charge."""
    if not isinstance(word, tuple) or not 1 <= len(word) <= MAX_CHARGED:
        raise InvalidWord("this is no tuple of 1 to 12 integers")
    if not all([is_integer_from(number, 1, MAX_CHARGED) for number in word]):
        raise InvalidWord("the word has something else than small integers from 1 on")
    content = content_of(word)
    if not all([content[k] <= content[k - 1] for k in range(1, len(content))]):
        raise InvalidWord("the word has an integer more often than the one before it")


def taking_out(word, left):
    """The pairs (place, how often one went round) of the letters 1, 2, .. taken out of the places that are left."""
    taken = []
    at = len(word)
    rounds = 0
    places = [place for place in left if word[place] == 1]
    while places:
        ahead = [place for place in places if place < at]
        if not ahead:
            rounds = rounds + 1
            ahead = places
        at = ahead[-1]
        taken.append((at, rounds))
        places = [place for place in left if word[place] == len(taken) + 1]
    return taken


def takings_out(word):
    """The list of all takings out of the word."""
    left = list(range(len(word)))
    found = []
    while left:
        taken = taking_out(word, left)
        places = [place for place, _ in taken]
        left = [place for place in left if place not in places]
        found.append(taken)
    return found


def charge(word):
    """The sum, over all letters, of how often one had gone round when the letter was taken out."""
    check_charged(word)
    return sum([rounds for taken in takings_out(word) for _, rounds in taken])


def charge_rounds(word):
    """For each taking out the tuple of the places of the letters 1, 2, .. that were taken."""
    check_charged(word)
    return tuple([tuple([place for place, _ in taken]) for taken in takings_out(word)])


def cocharge(word):
    """The rise of the content less the charge."""
    check_charged(word)
    return parts_rise(content_of(word)) - charge(word)


def row_word(shape, content, tableau):
    """The rows of the tableau one behind the other, the uppermost one first."""
    check_shape(shape)
    check_shape(content)
    if not are_rows_of(shape, tableau) or not is_steep(tableau):
        raise InvalidFilling("this is no tableau of the shape")
    word = word_of_rows(tableau)
    if tuple(sorted(word)) != sorted_word(content):
        raise InvalidFilling("the tableau has another content")
    return word


def are_rows_of(shape, value):
    """Whether the value is a tuple of tuples of integers that are as long as the rows of the shape."""
    if not isinstance(value, tuple) or not all([isinstance(row, tuple) for row in value]):
        return False
    if tuple([len(row) for row in value]) != shape:
        return False
    return all([is_integer(number) for row in value for number in row])


def is_steep(tableau):
    """Whether the rows do not descend, and the columns ascend upwards."""
    level = all([row[k - 1] <= row[k] for row in tableau for k in range(1, len(row))])
    return level and all([
        tableau[k - 1][column] < tableau[k][column]
        for k in range(1, len(tableau))
        for column in range(len(tableau[k]))
    ])


def word_of_rows(tableau):
    """The integers of the rows, the uppermost row first."""
    return tuple([number for k in range(len(tableau) - 1, -1, -1) for number in tableau[k]])


def sorted_word(content):
    """The ascending integers with this content."""
    return tuple([k + 1 for k in range(len(content)) for _ in range(content[k])])


def cocharge_number(shape, content):
    """The sum of t ** cocharge over all tableaux of the shape with this content."""
    table = {}
    for tableau in tableaux(shape, content):
        powers = (0, cocharge(word_of_rows(tableau)))
        table[powers] = table.get(powers, 0) + 1
    return poly_of(rows_of_table(table))


def cocharge_sum(shape):
    """The sum of the shape with 0 in the place of q, by the cocharges of tableaux."""
    check_shape(shape)
    size = sum(shape)
    return sum_of(size, [(other, cocharge_number(other, shape)) for other in partitions_of(size)])


def product_of_sums(shapes):
    """The product of the sums of some shapes."""
    made = Sum(0, (((), Poly.number(1)),))
    for shape in shapes:
        made = made * shape_sum(shape)
    return made


def row_product(shape):
    """The product of the sums of the shapes that are one row of the shape."""
    check_shape(shape)
    return product_of_sums([(length,) for length in shape])


def column_product(shape):
    """The product of the sums of the shapes that are one column of the shape."""
    check_shape(shape)
    return product_of_sums([(1,) * length for length in turned_parts(shape)])


def hook_sum(shape):
    """The sum of the shape with 1 / q in the place of t."""
    check_shape(shape)
    return at_letter(shape_sum(shape), "t = 1 / q")


def at_letter(one, way):
    """The sum with a letter put in, as the way tells, in all tableau numbers."""
    check_sum(one)
    if way not in WAYS:
        raise UnknownName(way)
    for shape, number in one.pairs:
        if way == "q = 0" and least_power(number.rows, 0) < 0:
            raise Refused(("power", shape))
        if way == "t = 0" and least_power(number.rows, 1) < 0:
            raise Refused(("power", shape))
    return sum_of(one.size, [(shape, number_at_letter(number, way)) for shape, number in one.pairs])


def number_at_letter(number, way):
    """The polynomial with a letter put in; where 0 is put in there are no powers below 0."""
    table = {}
    for i, j, c in number.rows:
        powers = powers_at_letter(i, j, way)
        if powers is not None:
            table[powers] = table.get(powers, 0) + c
    return poly_of(rows_of_table(table))


def powers_at_letter(i, j, way):
    """The powers that q ** i t ** j has with a letter put in, or None if it becomes 0."""
    if way == "t = 1 / q":
        return (i - j, 0)
    if (way == "q = 0" and i > 0) or (way == "t = 0" and j > 0):
        return None
    if way == "q = 0" or way == "q = 1":
        return (0, j)
    return (i, 0)
