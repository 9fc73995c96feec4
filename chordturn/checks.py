"""Checks that several modules need."""


def is_true_integer(value):
    """Return whether a value of any kind is an integer in the sense of the package."""
    # Python counts True and False as integers, the package does not.
    return isinstance(value, int) and not isinstance(value, bool)


def is_integer_within(value, low, high):
    """Return whether a value of any kind is an integer from low to high."""
    return is_true_integer(value) and low <= value <= high


def is_point(value, size):
    """Return whether a value of any kind is a point of the size."""
    return is_integer_within(value, 1, 2 * size)
