"""Tables of integers whose hooks are 1, and their weights."""

from armlegs.base.checks import is_integer, is_integer_from
from armlegs.base.polys import Poly, poly_of, weighted_sum
from armlegs.base.shapes import check_size
from armlegs.errors import InvalidNumber, InvalidOperation

MAX_TABLE = 6
MOST_SUMMED = 5


def check_table(table):
    """Refuse what is no hook table."""
    if not is_hook_table(table):
        raise InvalidOperation("this is no hook table of a size from 1 to 6")


def rows_with_sum(total, length):
    """The list of all tuples of so many integers from 0 on with this sum, ascending."""
    begun = [((), total)]
    for _ in range(length - 1):
        begun = [(row + (entry,), left - entry) for row, left in begun for entry in range(left + 1)]
    return [row + (left,) for row, left in begun]


def column_above(rows):
    """The sum of the entries that the first rows of a table have in the column of the row that follows them."""
    return sum([row[len(rows) - k] for k, row in enumerate(rows)])


def all_tables(size):
    """The list of all hook tables of a size, ascending."""
    begun = [()]
    for k in range(size):
        begun = [rows + (row,) for rows in begun for row in rows_with_sum(1 + column_above(rows), size - k)]
    return begun


def hook_tables(size):
    """The hook tables of a size, ascending."""
    check_size(size)
    for table in all_tables(size):
        yield table


def is_table_row(value, length):
    """Whether the value is a tuple of so many integers from 0 on."""
    if not isinstance(value, tuple) or len(value) != length:
        return False
    return all([is_integer(entry) and entry >= 0 for entry in value])


def is_hook_table(value):
    """Whether the value is a hook table of a size from 1 to 6."""
    if not isinstance(value, tuple) or not 1 <= len(value) <= MAX_TABLE:
        return False
    if not all([is_table_row(row, len(value) - k) for k, row in enumerate(value)]):
        return False
    return all([sum(row) == 1 + column_above(value[:k]) for k, row in enumerate(value)])


def entries_of(table):
    """The list of the entries above 0."""
    return [entry for row in table for entry in row if entry > 0]


def entry_number(table):
    """How many entries of the table are above 0."""
    check_table(table)
    return len(entries_of(table))


def drawn_in(table):
    """The table without the last row and column, whose entries are added to the first entries of their rows."""
    check_table(table)
    if len(table) == 1:
        raise InvalidOperation("the table has no row to leave out")
    return tuple([(row[0] + row[-1],) + row[1:-1] for row in table[:-1]])


def drawn_out(table, parts):
    """The table of the next size with these integers in its last column that is drawn in to the table."""
    check_table(table)
    if len(table) == MAX_TABLE:
        raise InvalidOperation("the table is too great to be drawn out")
    if not is_table_row(parts, len(table)) or not all([part <= row[0] for part, row in zip(parts, table)]):
        raise InvalidOperation("these are no parts of the first entries of the rows")
    rows = [(row[0] - part,) + row[1:] + (part,) for row, part in zip(table, parts)]
    return tuple(rows + [(1 + sum(parts),)])


def entry_weight(entry):
    """The sum of q ** i t ** (entry - 1 - i) for i from 0 to entry - 1."""
    return poly_of(tuple([(i, entry - 1 - i, 1) for i in range(entry)]))


def weight_of(entries, size):
    """The weight of a hook table of a size with these entries above 0."""
    both = Poly(((0, 0, -1), (0, 1, 1), (1, 0, 1), (1, 1, -1)))
    made = both.power(len(entries) - size)
    for entry in entries:
        if entry > 1:
            made = made * entry_weight(entry)
    return made


def table_weight(table):
    """The weight of the table."""
    check_table(table)
    return weight_of(entries_of(table), len(table))


def table_sum(size):
    """The sum of the weights of all hook tables of a size.

    Many tables have the same entries, and so one weight.
    """
    if not is_integer_from(size, 1, MOST_SUMMED):
        raise InvalidNumber(size)
    counts = {}
    for table in all_tables(size):
        entries = tuple(sorted(entries_of(table)))
        counts[entries] = counts.get(entries, 0) + 1
    return weighted_sum([(many, weight_of(entries, size)) for entries, many in counts.items()])


def entry_counts(size):
    """The ascending tuple of the pairs (k, how many hook tables of the size have k entries above 0)."""
    check_size(size)
    counts = {}
    for table in all_tables(size):
        many = len(entries_of(table))
        counts[many] = counts.get(many, 0) + 1
    return tuple([(many, counts[many]) for many in sorted(counts)])
