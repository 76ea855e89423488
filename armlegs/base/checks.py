"""Which values are integers, rows of parts, compositions and shapes."""


def is_integer(value):
    """Whether the value is an integer of at most 60 digits."""
    return isinstance(value, int) and not isinstance(value, bool) and -(10 ** 60) < value < 10 ** 60


def is_integer_from(value, low, high):
    """Whether the value is an integer from `low` to `high`."""
    return is_integer(value) and low <= value <= high


def is_composition_within(value, low, high):
    """Whether the value is a composition of a number from `low` to `high`."""
    if not isinstance(value, tuple) or not all([is_integer(part) and part > 0 for part in value]):
        return False
    return low <= sum(value) <= high


def is_shape_within(value, low, high):
    """Whether the value is a shape of a size from `low` to `high`."""
    if not is_composition_within(value, low, high):
        return False
    return all([value[row] <= value[row - 1] for row in range(1, len(value))])


def is_content_of(value, size):
    """Whether the value is a tuple of one to six integers from 0 on with the sum `size`."""
    if not isinstance(value, tuple) or len(value) < 1 or len(value) > 6:
        return False
    return all([is_integer(part) and part >= 0 for part in value]) and sum(value) == size
