"""What deeds do with the things of a desk, and by which word they are refused."""

from armlegs.base.polys import MOST_POWER
from armlegs.base.rows import is_triple
from armlegs.deeds.nabla import nabla
from armlegs.fill.fillings import shape_sum
from armlegs.sums.letters import times_letters
from armlegs.sums.sums import Sum

MAKING = ("shape", "put")
OF_TWO = ("add", "take")


def has_few_rows(some, most_rows):
    """Whether the tableau numbers have together at most so many rows, and no great powers or long integers."""
    rows = [row for _, number in some.pairs for row in number.rows]
    return len(rows) <= most_rows and all([is_triple(row, MOST_POWER) for row in rows])


def names_asked(deed):
    """The tuple of the names that must be there for the deed."""
    if deed[0] in MAKING:
        return ()
    if deed[0] in OF_TWO:
        return deed[1:]
    return deed[1:2]


def worked(things, deed):
    """What the thing of the deed, other than "drop", becomes."""
    word, name = deed[:2]
    if word == "shape":
        return shape_sum(deed[2])
    if word == "put":
        return Sum.of_kind(deed[2], deed[3])
    if word == "add":
        return things[name] + things[deed[2]]
    if word == "take":
        return things[name] - things[deed[2]]
    if word == "times":
        return things[name].times(deed[2])
    if word == "letters":
        return times_letters(things[name], deed[2])
    if word == "turn":
        return things[name].turned()
    if word == "trade":
        return things[name].with_traded()
    return nabla(things[name])


def with_thing(things, name, some):
    """The things with a sum under a name, and ascending names."""
    made = {other: things[other] for other in things}
    made[name] = some
    return {other: made[other] for other in sorted(made)}


def without_thing(things, name):
    """The things without that of a name."""
    return {other: things[other] for other in things if other != name}
