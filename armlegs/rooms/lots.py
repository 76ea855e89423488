"""The space of all derivatives of a determinant, as vectors.

In vectors the determinant has one integer at all places, up to signs. So a derivative moves signs alone.
"""

from armlegs.rooms.forms import EXPONENTS, POINTS, degrees_of, place_of, points_of


def renaming_sign(renaming):
    """-1 if an odd number of pairs of the renaming descend, otherwise 1."""
    sign = 1
    for k in range(len(renaming)):
        for other in renaming[:k]:
            if other > renaming[k]:
                sign = -sign
    return sign


def steps_below(place, n, most):
    """The list of the triples (step, a, b): the steps down from a place, of the degrees (a, b), at most those told."""
    begun = [(0, 0, 0)]
    for point in points_of(place, n):
        begun = [
            (step * POINTS + i * EXPONENTS + j, a + i, b + j)
            for step, a, b in begun
            for i in range(min(point // EXPONENTS, most[0] - a) + 1)
            for j in range(min(point % EXPONENTS, most[1] - b) + 1)
        ]
    return begun


def signed_places(form):
    """The pairs of the places and the signs of a determinant."""
    return [(place_of(powers), sign) for powers, sign in form]


def derivatives_at(form, n, degrees):
    """The list of the vectors of all derivatives of a determinant that have these degrees."""
    told = signed_places(form)
    whole = degrees_of(form[0][0])
    less = (whole[0] - degrees[0], whole[1] - degrees[1])
    if less[0] < 0 or less[1] < 0:
        return []
    found = {}
    for place, sign in told:
        for step, a, b in steps_below(place, n, less):
            if (a, b) == less:
                found.setdefault(step, {})[place - step] = sign
    return [found[step] for step in sorted(found)]


def all_derivatives(form, n, half):
    """A dict from degrees to dicts from steps to the vectors that they lead to from a determinant.

    The degrees are those of the vectors. With `half` only the steps are taken that are not behind the degrees that
    are left: there are as many independent vectors of the degrees of the steps as of the degrees that are left.
    """
    told = signed_places(form)
    whole = degrees_of(form[0][0])
    found = {}
    for place, sign in told:
        for step, a, b in steps_below(place, n, whole):
            degrees = (whole[0] - a, whole[1] - b)
            if not half or (a, b) <= degrees:
                found.setdefault(degrees, {}).setdefault(step, {})[place - step] = sign
    return found
