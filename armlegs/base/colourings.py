"""Counts of colourings by their rises, for lots of things that are told as the bits of integers.

A thing can have arcs to other things. A rise is an arc from a thing with a lesser colour to one with a greater colour.
A sum of powers of q is packed: the number of colourings with k rises stands `step` times k binary digits up. There are
at most 720 colourings, so fields of 16 digits are wide enough.
"""

FIELD_BITS = 16
BIT_COUNTS = (
    0, 1, 1, 2, 1, 2, 2, 3, 1, 2, 2, 3, 2, 3, 3, 4, 1, 2, 2, 3, 2, 3, 3, 4, 2, 3, 3, 4, 3, 4, 4, 5,
    1, 2, 2, 3, 2, 3, 3, 4, 2, 3, 3, 4, 3, 4, 4, 5, 2, 3, 3, 4, 3, 4, 4, 5, 3, 4, 4, 5, 4, 5, 5, 6,
)


def members(things, many):
    """The list of the indices of the bits of a lot of at most so many things."""
    return [k for k in range(many) if things & (1 << k)]


def arcs_between(lot, things, ends):
    """How many arcs lead from things of a lot, told by their indices, to things of another lot."""
    return sum([BIT_COUNTS[ends[k] & things] for k in lot])


def free_things(things, ahead):
    """Those things of a lot that can have the least colour: none of the lot must have a lesser one."""
    return sum([1 << k for k in members(things, len(ahead)) if ahead[k] & things == 0])


def are_begun_right(things, ahead):
    """Whether no thing beside these has a thing among them that must have a lesser colour."""
    return all([things & (1 << k) or ahead[k] & things == 0 for k in range(len(ahead))])


def counted_colourings(ends, ahead, proper, step):
    """A dict from the shapes of the size to the packed sums of q ** rises over their colourings.

    `ends` tells for each thing to which ones its arcs lead, `ahead` which ones must have a lesser colour. With `proper`
    both ends of each arc have unlike colours. The things of the least colour are chosen in all ways, and the others are
    coloured as those of a lesser lot.
    """
    many = len(ends)
    found = [{(): 1}]
    for things in range(1, 1 << many):
        made = {}
        free = free_things(things, ahead) if are_begun_right(things, ahead) else 0
        chosen = free
        while chosen > 0:
            lot = members(chosen, many)
            if not proper or arcs_between(lot, chosen, ends) == 0:
                others = things - chosen
                add_colour(made, len(lot), found[others], step * arcs_between(lot, others, ends))
            chosen = (chosen - 1) & free
        found.append(made)
    return found[-1]


def add_colour(made, many, told, steps):
    """Add to `made` the told numbers, so many digits up, for shapes with one more row, the longest one."""
    for shape, number in told.items():
        if len(shape) == 0 or shape[0] <= many:
            longer = (many,) + shape
            made[longer] = made.get(longer, 0) + (number << steps)
