"""Vectors folded together, to count what of a space stays if things are renamed.

The renamings take the things of one block to one another. Of a space that they take to itself, those vectors stay
that are sums of all renamings of one vector. Such a sum is told by its integers at folded places, in which the
points of each block ascend: so as many of them are independent as vectors folded there. Likewise for vectors that
change their signs if two things of one block trade.
"""

from armlegs.rooms.echelons import echelon_of
from armlegs.rooms.forms import POINTS, points_of


def signed_order(points, turning):
    """The points, ascending, and the sign of the renaming; if signs are `turning`, that is 0 for equal points."""
    ordered = sorted(points)
    if not turning:
        return (ordered, 1)
    sign = 1
    for k in range(len(points)):
        for other in points[:k]:
            if other == points[k]:
                return (ordered, 0)
            if other > points[k]:
                sign = -sign
    return (ordered, sign)


class Fold:
    """Blocks of things, and whether signs are turning; it keeps where it has folded places to."""

    def __init__(self, blocks, turning):
        self.blocks = blocks
        self.turning = turning
        self.known = {}

    def folded_place(self, place):
        """The pair of the place to which a place is folded, and of its sign."""
        if place not in self.known:
            self.known[place] = self.worked_out(place)
        return self.known[place]

    def worked_out(self, place):
        """As of `folded_place`, for a place that is not known yet."""
        points = points_of(place, sum(self.blocks))
        made = 0
        sign = 1
        start = 0
        for many in self.blocks:
            ordered, turned = signed_order(points[start:start + many], self.turning)
            for point in ordered:
                made = made * POINTS + point
            sign = sign * turned
            start = start + many
        return (made, sign)

    def folded(self, vector):
        """The vector with the integers of all places at folded ones."""
        made = {}
        for place, number in vector.items():
            other, sign = self.folded_place(place)
            made[other] = made.get(other, 0) + sign * number
        return {place: number for place, number in made.items() if number != 0}

    def staying(self, vectors):
        """How many vectors that stay are independent, in the space that the vectors make."""
        return len(echelon_of([self.folded(vector) for vector in vectors]))

    def staying_steps(self, steps):
        """As of `staying`, for all vectors to which steps lead from a determinant, told as a dict.

        Steps that are folded to one place lead to vectors that are folded to one, up to its sign.
        """
        return self.staying([vector for step, vector in steps.items() if self.folded_place(step)[0] == step])
