"""Labelled paths, their area and dinv, and the sums that they make."""

from armlegs.base.checks import is_integer, is_integer_from
from armlegs.base.colourings import FIELD_BITS, counted_colourings
from armlegs.base.packs import unpacked
from armlegs.base.parts import SHAPES
from armlegs.base.polys import poly_of
from armlegs.base.rows import rows_of_table
from armlegs.base.shapes import check_size
from armlegs.errors import InvalidNumber, InvalidPath
from armlegs.sums.sums import Sum, sum_of
from armlegs.words.words import is_word

MOST_ENTRIES = 6
MOST_SUMMED = 5
# More than the greatest area of an area row whose labels are summed: packed sums have so many powers of t.
MANY_AREAS = 11


def check_row(row):
    """Refuse what is no area row."""
    if not is_area_row(row):
        raise InvalidPath("this is no area row")


def check_summed_row(row):
    """Refuse what is no area row of a length whose labels are summed up."""
    check_row(row)
    if len(row) > MOST_SUMMED:
        raise InvalidPath("the area row is too long to be summed")


def check_labels(row, labels):
    """Refuse what is no tuple of labels of the row."""
    if not is_labelled(row, labels):
        raise InvalidPath("these are no labels of the area row")


def area_rows(size):
    """The ascending tuple of all area rows of a length."""
    check_size(size)
    begun = [(0,)]
    for _ in range(size - 1):
        begun = [row + (entry,) for row in begun for entry in range(row[-1] + 2)]
    return tuple(begun)


def is_area_row(value):
    """Whether the value is an area row of a length from 1 to 6."""
    if not isinstance(value, tuple) or not 1 <= len(value) <= MOST_ENTRIES:
        return False
    if not all([is_integer(entry) and entry >= 0 for entry in value]) or value[0] != 0:
        return False
    return all([value[k] <= value[k - 1] + 1 for k in range(1, len(value))])


def is_labelled(row, value):
    """Whether the value is a tuple of labels of the row."""
    check_row(row)
    if not is_word(value) or len(value) != len(row):
        return False
    return all([may_follow(row, value[:k], value[k]) for k in range(len(row))])


def may_follow(row, labels, label):
    """Whether the label can stand behind the first labels of the row."""
    k = len(labels)
    return k == 0 or row[k] != row[k - 1] + 1 or label > labels[-1]


def labels_of(row):
    """The list of all tuples of labels of the row, ascending."""
    begun = [()]
    for _ in row:
        begun = [
            labels + (label,)
            for labels in begun
            for label in range(1, len(row) + 1)
            if label not in labels and may_follow(row, labels, label)
        ]
    return begun


def labelled_paths(row):
    """The tuples of labels of the row, ascending."""
    check_row(row)
    for labels in labels_of(row):
        yield labels


def path_counts(row, labels):
    """The pair of the area and the dinv of a labelled path."""
    check_row(row)
    check_labels(row, labels)
    level = [(i, j) for i, j in level_pairs(row) if labels[i] < labels[j]]
    falling = [(i, j) for i, j in falling_pairs(row) if labels[i] > labels[j]]
    return (sum(row), len(level) + len(falling))


def level_pairs(row):
    """The list of the pairs of indices i < j with equal entries."""
    return [(i, j) for j in range(len(row)) for i in range(j) if row[i] == row[j]]


def falling_pairs(row):
    """The list of the pairs of indices i < j with the entry i one more than the entry j."""
    return [(i, j) for j in range(len(row)) for i in range(j) if row[i] == row[j] + 1]


def path_word(row, labels):
    """The labels, those at greater entries first, and of equal entries those with the greater index first."""
    check_row(row)
    check_labels(row, labels)
    places = sorted([(entry, k) for k, entry in enumerate(row)], reverse=True)
    return tuple([labels[k] for _, k in places])


def row_sum(row):
    """The sum of t ** area q ** dinv times the fundamental sum of the word, over all labels of the row."""
    check_summed_row(row)
    return total_of_rows(len(row), [row])


def path_sum(size):
    """The sum of the row sums of all area rows of a length."""
    if not is_integer_from(size, 1, MOST_SUMMED):
        raise InvalidNumber(size)
    return total_of_rows(size, area_rows(size))


def lot_of(things):
    """The lot with the things of a list, as the bits of an integer."""
    return sum([1 << k for k in things])


def counted_labels(row):
    """A dict from the shapes of the size to the packed sums of q ** dinv over all labels with these many equal ones.

    Equal labels that are told apart as their word is read from the left add nothing to dinv, and do not stand where the
    entry is one more than the one ahead of it. So labels are colours, and dinv counts rises.
    """
    places = range(len(row))
    pairs = level_pairs(row) + [(j, i) for i, j in falling_pairs(row)]
    ends = [lot_of([j for i, j in pairs if i == k]) for k in places]
    ahead = [lot_of([k - 1]) if k > 0 and row[k] == row[k - 1] + 1 else 0 for k in places]
    return counted_colourings(ends, ahead, False, FIELD_BITS * MANY_AREAS)


def total_of_rows(size, rows):
    """The sum of the row sums of some area rows of a length."""
    found = {}
    for row in rows:
        for shape, number in counted_labels(row).items():
            found[shape] = found.get(shape, 0) + (number << (FIELD_BITS * sum(row)))
    told = [(shape, poly_of(unpacked(found.get(shape, 0), (0, 0), MANY_AREAS, FIELD_BITS))) for shape in SHAPES[size]]
    return Sum.from_numbers("h", size, sum_of(size, told).pairs)


def row_polynomial(size):
    """The sum of t ** area q ** m over all area rows of a length, m counting the level and the falling pairs."""
    table = {}
    for row in area_rows(size):
        powers = (len(level_pairs(row)) + len(falling_pairs(row)), sum(row))
        table[powers] = table.get(powers, 0) + 1
    return poly_of(rows_of_table(table))
