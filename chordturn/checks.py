"""Checks that several modules need."""

from chordturn.errors import InvalidSize, InvalidSteps, SizesDiffer


def is_true_integer(value):
    """Return whether a value of any kind is an integer in the sense of the package."""
    # Python counts True and False as integers, the package does not.
    return isinstance(value, int) and not isinstance(value, bool)


def is_integer_within(value, low, high):
    """Return whether a value of any kind is an integer from low to high."""
    return is_true_integer(value) and low <= value <= high


def is_point(value, size):
    """Return whether a value of any kind is a point of the size."""
    return is_integer_within(value, 1, 2 * size)


def is_pair(value):
    """Return whether a value of any kind is a tuple of two items."""
    return isinstance(value, tuple) and len(value) == 2


def is_chord(value, size):
    """Return whether a value of any kind is a pair of points of the size, the smaller one first."""
    if not is_pair(value):
        return False
    low, high = value
    return is_point(low, size) and is_point(high, size) and low < high


def validate_size(size, low, high):
    """Raise InvalidSize if a value of any kind is not an integer from low to high."""
    if not is_integer_within(size, low, high):
        raise InvalidSize(size)


def validate_steps(steps):
    """Raise InvalidSteps if a value of any kind is not an integer."""
    if not is_true_integer(steps):
        raise InvalidSteps(steps)


def validate_same_size(size, other_size):
    """Raise SizesDiffer if the sizes of two arguments differ."""
    if size != other_size:
        raise SizesDiffer((size, other_size))
