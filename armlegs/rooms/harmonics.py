"""The harmonic forms in n pairs of letters, as vectors."""

from armlegs.base.parts import arrangements
from armlegs.rooms.echelons import independent
from armlegs.rooms.forms import EXPONENTS, POINTS, derived_vector, place_of, points_of
from armlegs.rooms.lots import renaming_sign


def thing_places(n):
    """The places of the y of each of n things; that of its x is so many times as great as exponents have digits."""
    places = [1]
    for _ in range(n - 1):
        places.append(places[-1] * POINTS)
    return places


def first_vector(n):
    """The vector of the determinant of the shape with one row."""
    found = {}
    for renaming in arrangements((1,) * n):
        found[place_of(tuple([k - 1 for k in renaming]) + (0,) * n)] = renaming_sign(renaming)
    return found


def led_up(vector, many, units):
    """The vector of the sum, over all things, of y times the derivative by x, done so many times."""
    made = {}
    for place, number in vector.items():
        for unit in units:
            if place // (unit * EXPONENTS) % EXPONENTS >= many:
                other = place - many * unit * EXPONENTS + unit
                made[other] = made.get(other, 0) + number * (place // unit % EXPONENTS + 1)
    return {place: number for place, number in made.items() if number != 0}


def harmonic_spaces(n, least, most):
    """A dict from degrees (a, b) to lists of independent vectors that make all harmonic forms with these degrees.

    It has those with a from `least` on and b to `most` with b up to a: if each x and its y trade, these forms become
    the other ones. The derivatives by x and the leadings up can be done in any sequence, so each of them can be taken
    as the last one.
    """
    units = thing_places(n)
    top = n * (n - 1) // 2
    found = {(top, 0): [first_vector(n)]}
    for b in range(min(most, top // 2) + 1):
        for a in range(top - max(b, 1), max(least, b) - 1, -1):
            made = [derived_vector(vector, unit * EXPONENTS) for vector in found.get((a + 1, b), []) for unit in units]
            for many in range(1, n):
                made.extend([led_up(vector, many, units) for vector in found.get((a + many, b - 1), [])])
            kept = independent(made)
            if kept:
                found[(a, b)] = kept
    return found


def harmonic_half(n):
    """All of `harmonic_spaces`."""
    return harmonic_spaces(n, 0, n * n)


def harmonic_vectors(n, degrees):
    """The list of independent vectors that make all harmonic forms with these degrees."""
    a, b = degrees
    if a < b:
        return [traded_vector(vector, n) for vector in harmonic_spaces(n, b, a).get((b, a), [])]
    return harmonic_spaces(n, a, b).get(degrees, [])


def traded_vector(vector, n):
    """The vector with the x and the y of each thing traded."""
    return {traded_place(place, n): number for place, number in vector.items()}


def traded_place(place, n):
    """The place with the exponents of the x and the y of each thing traded."""
    made = 0
    for point in points_of(place, n):
        made = made * POINTS + point % EXPONENTS * EXPONENTS + point // EXPONENTS
    return made


def is_harmonic_vector(vector, n):
    """Whether all sums over the things of an a-th derivative by x and a b-th one by y are 0.

    Those with a + b up to n are enough: the others are made of them by products and sums.
    """
    units = thing_places(n)
    for a in range(n + 1):
        for b in range(n + 1 - a):
            if a + b > 0 and derived_sum(vector, a, b, units):
                return False
    return True


def derived_sum(vector, a, b, units):
    """The vector of the sum over the things of the a-th derivative by x, taken b times by y."""
    made = {}
    for place, number in vector.items():
        for unit in units:
            point = place // unit % POINTS
            if point // EXPONENTS >= a and point % EXPONENTS >= b:
                other = place - (a * EXPONENTS + b) * unit
                made[other] = made.get(other, 0) + number
    return {place: number for place, number in made.items() if number != 0}
