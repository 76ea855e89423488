"""Counts of colourings by their rises, for lots of things that are told as the bits of integers.

The numbers are packed as in `armlegs.deeds.packs`: there are at most 720 colourings, and 15 rises.
"""

from armlegs.base.polys import int_power
from armlegs.deeds.packs import GREAT_Q


def bit_counts(many):
    """The list of how many bits each integer of at most so many bits has."""
    counts = [0]
    for k in range(1, 1 << many):
        counts.append(counts[k // 2] + k % 2)
    return counts


def later_ends(spans):
    """For each thing the lot of the things that are later ends of its arcs."""
    return [(1 << span) - (1 << (k + 1)) for k, span in enumerate(spans)]


def members(things, many):
    """The list of the indices of the bits of a lot of at most so many things."""
    return [k for k in range(many) if things & (1 << k)]


def arcs_between(lot, things, later, counts):
    """How many arcs lead from things of a lot, told by their indices, to later ones among other things."""
    return sum([counts[later[k] & things] for k in lot])


def counted_colourings(spans, proper):
    """A dict from the shapes of the size to the packed sums of q ** rises over their colourings, or proper ones.

    The things of the first colour are chosen in all ways; the others are coloured as those of a lesser lot.
    """
    many = len(spans)
    later = later_ends(spans)
    counts = bit_counts(many)
    found = [{(): 1}]
    for things in range(1, 1 << many):
        made = {}
        chosen = things
        while chosen > 0:
            lot = members(chosen, many)
            if not proper or arcs_between(lot, chosen, later, counts) == 0:
                others = things - chosen
                factor = int_power(GREAT_Q, arcs_between(lot, others, later, counts))
                add_colour(made, len(lot), found[others], factor)
            chosen = (chosen - 1) & things
        found.append(made)
    return found[-1]


def add_colour(made, many, told, factor):
    """Add to `made` the told numbers times a factor, for shapes with one more row, the longest one."""
    for shape, number in told.items():
        if len(shape) == 0 or shape[0] <= many:
            longer = (many,) + shape
            made[longer] = made.get(longer, 0) + number * factor
