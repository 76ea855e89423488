"""Shapes and compositions as bare tuples, () included, for callers that have checked them."""

# The shapes of each size, descending as tuples.
SHAPES = (
    ((),),
    ((1,),),
    ((2,), (1, 1)),
    ((3,), (2, 1), (1, 1, 1)),
    ((4,), (3, 1), (2, 2), (2, 1, 1), (1, 1, 1, 1)),
    ((5,), (4, 1), (3, 2), (3, 1, 1), (2, 2, 1), (2, 1, 1, 1), (1, 1, 1, 1, 1)),
    (
        (6,), (5, 1), (4, 2), (4, 1, 1), (3, 3), (3, 2, 1), (3, 1, 1, 1), (2, 2, 2), (2, 2, 1, 1), (2, 1, 1, 1, 1),
        (1, 1, 1, 1, 1, 1),
    ),
)


def partitions_of(size):
    """The tuple of the shapes of a size from 0 to 6, descending as tuples."""
    return SHAPES[size]


def all_compositions(size):
    """The list of the compositions of a size, descending as tuples."""
    if size == 0:
        return [()]
    found = []
    for first in range(size, 0, -1):
        for others in all_compositions(size - first):
            found.append((first,) + others)
    return found


def turned_parts(shape):
    """The shape whose rows are the columns of the shape."""
    longest = shape[0] if shape else 0
    return tuple([len([part for part in shape if part > column]) for column in range(longest)])


def arms_and_legs(shape):
    """The list of the triples (square, arm, leg) for all squares of the shape, ascending."""
    columns = turned_parts(shape)
    return [
        ((row, column), length - column - 1, columns[column] - row - 1)
        for row, length in enumerate(shape)
        for column in range(length)
    ]


def is_above(one, other):
    """Whether the one shape is at or above the other one, of the same size."""
    return all([sum(one[:many]) >= sum(other[:many]) for many in range(1, len(one))])


def parts_rise(shape):
    """The sum of the row numbers of all squares."""
    return sum([row * shape[row] for row in range(len(shape))])


def arrangements(content):
    """The list of all tuples that have 1, 2, and so on as often as the content tells, ascending."""
    begun = [((), content)]
    for _ in range(sum(content)):
        begun = [
            (told + (k + 1,), left[:k] + (left[k] - 1,) + left[k + 1:])
            for told, left in begun
            for k in range(len(left))
            if left[k] > 0
        ]
    return [told for told, _ in begun]


def z_number(cycles):
    """By what n! is divided to count the renamings with these cycles."""
    made = 1
    for k, part in enumerate(cycles):
        made = made * part * cycles[:k + 1].count(part)
    return made


def without_zeros(parts):
    """The parts above 0."""
    return tuple([part for part in parts if part > 0])


def with_row_strips(shape, many):
    """The list of the shapes with `many` more squares, no two of the new ones in one column."""
    begun = [((), many)]
    for row in range(len(shape) + 1):
        length = shape[row] if row < len(shape) else 0
        room = shape[row - 1] - length if row > 0 else many
        begun = [
            (parts + (length + more,), left - more)
            for parts, left in begun
            for more in range(min(room, left) + 1)
        ]
    return [without_zeros(parts) for parts, left in begun if left == 0]


def with_rim_strips(shape, many):
    """The list of the pairs (larger shape, sign) for all strips of `many` squares that can be added.

    Each row has a mark, its length and the number of rows above it. A strip raises one mark by
    `many`, and it has one row more than there are marks that this one passes.
    """
    count = len(shape) + many
    parts = shape + (0,) * many
    marks = [parts[row] + count - 1 - row for row in range(count)]
    found = []
    for mark in marks:
        if mark + many not in marks:
            passed = [other for other in marks if mark < other < mark + many]
            moved = sorted([other for other in marks if other != mark] + [mark + many], reverse=True)
            larger = without_zeros([moved[row] - count + 1 + row for row in range(count)])
            found.append((larger, -1 if len(passed) % 2 == 1 else 1))
    return found


def times_rows(table, parts):
    """A dict from shapes to integers, led on by adding row strips of the told sizes one after another."""
    made = table
    for many in parts:
        grown = {}
        for shape, weight in made.items():
            for larger in with_row_strips(shape, many):
                grown[larger] = grown.get(larger, 0) + weight
        made = grown
    return made


def trace_table(cycles):
    """A dict from the shapes of the size of the cycles to their traces; shapes with the trace 0 can lack."""
    made = {(): 1}
    for many in cycles:
        grown = {}
        for shape, weight in made.items():
            for larger, sign in with_rim_strips(shape, many):
                grown[larger] = grown.get(larger, 0) + sign * weight
        made = grown
    return made
