"""Forms in n pairs of letters, and the vectors by which they are worked on.

A vector is a dict from places to integers. A place is the exponents of one product of letters, as an integer with
ten binary digits for each thing: five for the exponent of its x, and five for that of its y. The integer at a place
is the coefficient times the product of the factorials of all exponents, so a derivative just moves the integers.
"""

from math import factorial, gcd

from armlegs.base.checks import is_integer, is_integer_from
from armlegs.errors import InvalidOperation

MOST_EXPONENT = 20
MOST_DEGREE = 12
POINTS = 1024
EXPONENTS = 32


def is_term(value, many):
    """Whether the value is a pair of so many exponents and an integer other than 0."""
    if not isinstance(value, tuple) or len(value) != 2:
        return False
    exponents, c = value
    if not isinstance(exponents, tuple) or len(exponents) != many:
        return False
    return all([is_integer_from(power, 0, MOST_EXPONENT) for power in exponents]) and is_integer(c) and c != 0


def is_form_within(n, value, most_terms):
    """Whether the value is a form in n pairs of letters with at most so many pairs."""
    if not isinstance(value, tuple) or len(value) > most_terms:
        return False
    if not all([is_term(pair, 2 * n) for pair in value]):
        return False
    return all([value[k - 1][0] < value[k][0] for k in range(1, len(value))])


def check_degrees(degrees):
    """Refuse what is no pair of degrees that can be asked for."""
    if not isinstance(degrees, tuple) or len(degrees) != 2:
        raise InvalidOperation("this is no pair of degrees")
    if not all([is_integer_from(degree, 0, MOST_DEGREE) for degree in degrees]):
        raise InvalidOperation("a degree is no integer from 0 to 12")


def degrees_of(powers):
    """The sum of the exponents of all x, and that of all y."""
    many = len(powers) // 2
    return (sum(powers[:many]), sum(powers[many:]))


def has_degrees(form, degrees):
    """Whether a form is not 0 and has these degrees."""
    return len(form) > 0 and all([degrees_of(powers) == degrees for powers, _ in form])


def place_of(powers):
    """The place of a product of letters, told by the exponents of all x and then those of all y."""
    many = len(powers) // 2
    place = 0
    for k in range(many):
        place = place * POINTS + powers[k] * EXPONENTS + powers[k + many]
    return place


def points_of(place, n):
    """The list of what the place tells of each of n things."""
    points = []
    left = place
    for _ in range(n):
        points.append(left % POINTS)
        left = left // POINTS
    return points[::-1]


def powers_at(place, n):
    """The exponents of all x and then those of all y at a place."""
    points = points_of(place, n)
    return tuple([point // EXPONENTS for point in points] + [point % EXPONENTS for point in points])


def factorials_of(powers):
    """The product of the factorials of the exponents."""
    made = 1
    for power in powers:
        made = made * factorial(power)
    return made


def vector_of(form):
    """The vector of a form."""
    return {place_of(powers): c * factorials_of(powers) for powers, c in form}


def form_of(vector, n):
    """The shortest form that is a multiple, by a number above 0, of the form with this vector."""
    told = [(powers_at(place, n), number) for place, number in vector.items()]
    whole = 1
    for powers, _ in told:
        share = factorials_of(powers)
        whole = whole * share // gcd(whole, share)
    told = [(powers, number * (whole // factorials_of(powers))) for powers, number in told]
    shared = shared_factor([number for _, number in told])
    return tuple(sorted([(powers, number // shared) for powers, number in told]))


def shared_factor(numbers):
    """The greatest integer that divides all of the integers of a list."""
    found = 0
    for number in numbers:
        found = gcd(found, number)
    return found


def derived_vector(vector, step):
    """The vector of the derivative by one letter, told by the place of this letter alone.

    It is left out where the letter has the exponent 0: there the binary digits of the exponent are 0.
    """
    digits = step * (EXPONENTS - 1)
    return {place - step: number for place, number in vector.items() if place & digits}
