"""Where paths touch the slope, and the sums that nabla leads to those of such paths."""

from armlegs.base.checks import is_composition_within, is_integer_from
from armlegs.base.polys import Poly
from armlegs.base.shapes import check_composition
from armlegs.errors import InvalidNumber, InvalidShape, TooMany
from armlegs.paths.paths import MOST_SUMMED, area_rows, check_row, total_of_rows
from armlegs.sums.letters import joined_parts
from armlegs.sums.sums import MOST_SIZE, Sum, check_sum

MOST_LED = 6


def touching(row):
    """The composition of an area row: how many entries there are from each 0 to the next one."""
    check_row(row)
    starts = [k for k, entry in enumerate(row) if entry == 0]
    ends = starts[1:] + [len(row)]
    return tuple([end - start for start, end in zip(starts, ends)])


def touch_sum(composition):
    """The sum of the row sums of all area rows that have this composition."""
    if not is_composition_within(composition, 1, MOST_SUMMED):
        raise InvalidShape("this is no composition of a number from 1 to 5")
    size = sum(composition)
    return total_of_rows(size, [row for row in area_rows(size) if touching(row) == composition])


def lead(some, a):
    """The lead of the sum by a."""
    check_sum(some)
    if not is_integer_from(a, 1, MOST_LED):
        raise InvalidNumber(a)
    size = some.size + a
    if size > MOST_SIZE:
        raise TooMany(MOST_SIZE)
    sign = 1 if a % 2 == 1 else -1
    beside = [(sign, (a + k,)) for k in range(some.size + 1)]
    return joined_parts(some, Poly(((-1, 0, 1), (0, 0, -1))), size, beside).times(Poly.letter(1 - a, 0))


def lead_sum(composition):
    """The lead, by each entry of the composition from the last one on, of the sum 1 of the size 0."""
    check_composition(composition)
    made = Sum(0, (((), Poly.number(1)),))
    for k in range(len(composition) - 1, -1, -1):
        made = lead(made, composition[k])
    return made
