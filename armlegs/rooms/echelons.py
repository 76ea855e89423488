"""Vectors with integers, dicts from places to integers, and the spaces that they make with rational factors.

An echelon tells a space: it is a dict from places to vectors of the space, each with its greatest place.
"""

from math import gcd

from armlegs.rooms.forms import shared_factor

# A prime: what is left if integers are divided by it stays short.
PRIME = 2305843009213693951
# Integers with more binary digits than these are shortened before they grow further.
MANY_DIGITS = 200


def shortened(vector):
    """The vector divided by the greatest integer that divides all of it."""
    shared = shared_factor(list(vector.values()))
    return {place: number // shared for place, number in vector.items()}


def cleared(vector, row, place):
    """A multiple of the vector less one of the row, such that nothing is left at the place."""
    shared = gcd(vector[place], row[place])
    less = vector[place] // shared
    factor = row[place] // shared
    made = vector
    if factor != 1:
        made = {other: number * factor for other, number in vector.items()}
    for other, number in row.items():
        rest = made.get(other, 0) - number * less
        if rest == 0:
            del made[other]
        else:
            made[other] = rest
    if made and factor.bit_length() > 1 and made[max(made)].bit_length() > MANY_DIGITS:
        return shortened(made)
    return made


def rest_of(vector, echelon):
    """What is left of a multiple of the vector if vectors of the space are taken away; nothing if it is one itself."""
    left = {place: vector[place] for place in vector}
    while left:
        place = max(left)
        if place not in echelon:
            return left
        left = cleared(left, echelon[place], place)
    return left


def echelon_of(vectors):
    """The echelon of the space that the vectors make."""
    echelon = {}
    for vector in vectors:
        left = rest_of(vector, echelon)
        if left:
            echelon[max(left)] = shortened(left)
    return echelon


def independent(vectors):
    """The list of those of the vectors that the vectors ahead of them do not make."""
    echelon = {}
    found = []
    for vector in vectors:
        left = rest_of(vector, echelon)
        if left:
            echelon[max(left)] = shortened(left)
            found.append(vector)
    return found


def inverse_remainder(number):
    """The remainder whose product with a number, that the prime does not divide, has the remainder 1."""
    made = 1
    square = number
    left = PRIME - 2
    while left > 0:
        if left % 2 == 1:
            made = made * square % PRIME
        square = square * square % PRIME
        left = left // 2
    return made


def take_remainders(left, row, factor):
    """Take a row times a factor from a vector of remainders."""
    for place, number in row.items():
        rest = (left.get(place, 0) - number * factor) % PRIME
        if rest == 0:
            del left[place]
        else:
            left[place] = rest


def have_independent_remainders(vectors):
    """Whether the remainders of the vectors are independent. Then the vectors are, too, and it is told sooner."""
    echelon = {}
    for vector in vectors:
        left = {place: number % PRIME for place, number in vector.items() if number % PRIME != 0}
        while left and max(left) in echelon:
            place = max(left)
            take_remainders(left, echelon[place], left[place])
        if not left:
            return False
        place = max(left)
        inverse = inverse_remainder(left[place])
        echelon[place] = {other: number * inverse % PRIME for other, number in left.items()}
    return True


def are_independent(vectors):
    """Whether no one of the vectors is made by the others."""
    return have_independent_remainders(vectors) or len(independent(vectors)) == len(vectors)
