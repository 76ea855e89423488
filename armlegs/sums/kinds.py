"""The five kinds of sums told by integers: dicts from shapes to tableau numbers."""

from armlegs.base.parts import partitions_of, times_rows, trace_table, turned_parts


def kind_table(kind, shape):
    """The tableau numbers of the sum of a kind for a shape."""
    if kind == "m":
        return monomial_tables(sum(shape))[shape]
    if kind == "e":
        return turned_table(times_rows({(): 1}, shape))
    if kind == "h":
        return times_rows({(): 1}, shape)
    if kind == "p":
        return trace_table(shape)
    return {shape: 1}


def kind_tables(kind, size):
    """A dict from the shapes of a size to the tableau numbers of the sums of a kind."""
    if kind == "m":
        return monomial_tables(size)
    return {shape: kind_table(kind, shape) for shape in partitions_of(size)}


def opposite_tables(kind, size):
    """A dict from the shapes of a size to sums, told like the others.

    A sum whose numbers of the kind are told is the sum of these numbers times these sums. For "p"
    that is so if each number is divided by z of its shape.
    """
    if kind == "h":
        return monomial_tables(size)
    if kind == "e":
        tables = monomial_tables(size)
        return {shape: turned_table(tables[shape]) for shape in tables}
    if kind == "m":
        return kind_tables("h", size)
    return kind_tables(kind, size)


def turned_table(table):
    """The tableau numbers of the turned sum."""
    return {turned_parts(shape): weight for shape, weight in table.items()}


def row_tables(size):
    """For each shape of a size a dict: how often the sums of the kind "h" stand in its tableau sum.

    A sum of the kind "h" has the tableau number 1 at its own shape, and numbers at shapes ahead of it
    alone. So the tableau sums are found one after the other.
    """
    found = {}
    for shape in partitions_of(size):
        made = {shape: 1}
        for other, weight in times_rows({(): 1}, shape).items():
            if other != shape:
                for third, number in found[other].items():
                    made[third] = made.get(third, 0) - weight * number
        found[shape] = made
    return found


def monomial_tables(size):
    """A dict from the shapes of a size to the tableau numbers of the sums of the kind "m".

    Such a number is a pairing with a tableau sum, so it tells how often the sum of the kind "h" for
    the same shape stands in this tableau sum.
    """
    told = row_tables(size)
    return {shape: {other: told[other].get(shape, 0) for other in told} for shape in told}


def product_table(one, other):
    """The tableau numbers of the product of the tableau sums for two shapes of any sizes."""
    greater = one if sum(one) >= sum(other) else other
    lesser = other if sum(one) >= sum(other) else one
    made = {}
    for parts, weight in row_tables(sum(lesser))[lesser].items():
        for shape, number in times_rows({greater: 1}, parts).items():
            made[shape] = made.get(shape, 0) + weight * number
    return made
