"""Rows of polynomials: which tuples are rows, and their products and quotients.

Rows are the ascending tuples of triples (i, j, c) by which polynomials are told.
"""

from armlegs.base.checks import is_integer, is_integer_from


def is_triple(value, most_power):
    """Whether the value tells a term with powers that can be passed."""
    if not isinstance(value, tuple) or len(value) != 3:
        return False
    i, j, c = value
    if not is_integer_from(i, -most_power, most_power) or not is_integer_from(j, -most_power, most_power):
        return False
    return is_integer(c) and c != 0


def are_rows(value, most_rows, most_power):
    """Whether the value is a tuple of rows that can be passed."""
    if not isinstance(value, tuple) or len(value) > most_rows:
        return False
    if not all([is_triple(row, most_power) for row in value]):
        return False
    return all([value[k - 1][:2] < value[k][:2] for k in range(1, len(value))])


def rows_of_table(table):
    """The rows with the coefficients of a dict from pairs of powers, which can hold zeros."""
    return tuple(sorted([(i, j, c) for (i, j), c in table.items() if c != 0]))


def least_power(rows, letter):
    """The least power of a letter, 0 for q and 1 for t, in rows that are not empty."""
    return min([row[letter] for row in rows])


def greatest_power(rows, letter):
    """The greatest power of a letter, 0 for q and 1 for t, in rows that are not empty."""
    return max([row[letter] for row in rows])


def product_rows(one, other):
    """The rows of the product.

    Both powers are packed into one integer, since that is quicker to add than a pair.
    """
    if len(one) == 0 or len(other) == 0:
        return ()
    if len(one) == 1 or len(other) == 1:
        return tuple([(i + k, j + m, c * d) for i, j, c in one for k, m, d in other])
    low_one = least_power(one, 1)
    low_other = least_power(other, 1)
    width = greatest_power(one, 1) - low_one + greatest_power(other, 1) - low_other + 1
    packed = [(i * width + j - low_other, c) for i, j, c in other]
    table = {}
    for i, j, c in one:
        place = i * width + j - low_one
        for step, factor in packed:
            table[place + step] = table.get(place + step, 0) + c * factor
    rows = []
    for place in sorted(table):
        if table[place] != 0:
            i, j = divmod(place, width)
            rows.append((i, j + low_one + low_other, table[place]))
    return tuple(rows)


def slices_of(rows):
    """A dict from the powers of q to dicts from the powers of t to the coefficients."""
    slices = {}
    for i, j, c in rows:
        slices.setdefault(i, {})[j] = c
    return slices


def slice_quotient(part, lead, low, high):
    """The quotient of two slices, with powers of t from `low` to `high`, or None if there is none."""
    left = {j: part[j] for j in part}
    top = max(lead)
    found = {}
    while left:
        j = max(left)
        step = j - top
        if step < low or step > high or left[j] % lead[top] != 0:
            return None
        c = left[j] // lead[top]
        found[step] = c
        for k in lead:
            rest = left.get(k + step, 0) - c * lead[k]
            if rest == 0:
                del left[k + step]
            else:
                left[k + step] = rest
    return found


def take_product(slices, i, part, other):
    """Take the product of two slices from that at the power i of q; zeros can be left there."""
    left = slices.setdefault(i, {})
    for j in part:
        for k in other:
            left[j + k] = left.get(j + k, 0) - part[j] * other[k]


def quotient_rows(rows, divisor):
    """The rows whose product with the divisor, which is not empty, are `rows`, or None if there are none.

    The slices with the greatest power of q go first. The bounds of the powers of a product are the
    sums of those of its factors, so a term beyond these bounds tells that there is no quotient.
    """
    if len(rows) == 0:
        return ()
    low_q = least_power(rows, 0) - least_power(divisor, 0)
    low_t = least_power(rows, 1) - least_power(divisor, 1)
    high_t = greatest_power(rows, 1) - greatest_power(divisor, 1)
    left = slices_of(rows)
    parts = slices_of(divisor)
    top = max(parts)
    lead = parts.pop(top)
    found = []
    while left:
        i = max(left)
        taken = left.pop(i)
        rest = {j: taken[j] for j in taken if taken[j] != 0}
        if rest:
            part = slice_quotient(rest, lead, low_t, high_t)
            if part is None or i - top < low_q:
                return None
            for k in parts:
                take_product(left, i - top + k, part, parts[k])
            found.extend([(i - top, j, part[j]) for j in part])
    return tuple(sorted(found))
