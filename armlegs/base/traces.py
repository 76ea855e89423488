"""Cycles of renamings, traces, and tableaux."""

from armlegs.base.checks import is_content_of, is_shape_within
from armlegs.base.parts import partitions_of, times_rows, trace_table, with_row_strips, z_number
from armlegs.base.shapes import check_shape, check_size, is_within
from armlegs.errors import InvalidOperation, InvalidShape


def check_cycles(shape, cycles):
    """Refuse what is no shape of the size of the shape."""
    if not is_shape_within(cycles, sum(shape), sum(shape)):
        raise InvalidShape("these are no cycles of so many things")


def check_content(shape, content):
    """Refuse what is no content of tableaux of the shape."""
    if not is_content_of(content, sum(shape)):
        raise InvalidOperation("this is no content for the shape")


def z_of(shape):
    """By what n! is divided to count the renamings with these cycles."""
    check_shape(shape)
    return z_number(shape)


def trace(shape, cycles):
    """The sum of the signs of all ways to take the cycles away from the shape."""
    check_shape(shape)
    check_cycles(shape, cycles)
    return trace_table(cycles).get(shape, 0)


def traces(size):
    """The tuple of a row for each shape with its traces at all cycles."""
    check_size(size)
    shapes = partitions_of(size)
    tables = [trace_table(cycles) for cycles in shapes]
    return tuple([tuple([table.get(shape, 0) for table in tables]) for shape in shapes])


def tableau_count(shape, content):
    """How many tableaux of the shape have this content."""
    check_shape(shape)
    check_content(shape, content)
    return times_rows({(): 1}, content).get(shape, 0)


def tableaux(shape, content):
    """The tableaux of the shape with this content, ascending."""
    check_shape(shape)
    check_content(shape, content)
    for tableau in sorted(filled_shapes(shape, content)):
        yield tableau


def filled_shapes(shape, content):
    """The list of the tableaux of the shape with this content, in any sequence.

    The squares with one integer are a strip without two of them in one column.
    """
    begun = [((), ())]
    for k, many in enumerate(content):
        begun = [
            (larger, filled_rows(tableau, larger, k + 1))
            for inner, tableau in begun
            for larger in with_row_strips(inner, many)
            if is_within(larger, shape)
        ]
    return [tableau for _, tableau in begun]


def filled_rows(tableau, shape, number):
    """The rows of a tableau, filled up with a number to those of the shape."""
    rows = []
    for row in range(len(shape)):
        told = tableau[row] if row < len(tableau) else ()
        rows.append(told + (number,) * (shape[row] - len(told)))
    return tuple(rows)


def standard_count(shape):
    """How many standard tableaux of the shape there are."""
    check_shape(shape)
    return tableau_count(shape, (1,) * sum(shape))
