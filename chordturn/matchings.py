"""Matchings, whose chords may cross, and their crossings."""

from chordturn.checks import is_chord, is_true_integer, validate_size, validate_steps
from chordturn.errors import InvalidCrossing, InvalidMatching
from chordturn.words import MOST_SIZE


def validate_matching(matching):
    """Raise InvalidMatching if a value of any kind is not a matching."""
    if not isinstance(matching, tuple) or len(matching) > MOST_SIZE:
        raise InvalidMatching(None)
    for index, chord in enumerate(matching):
        if not is_chord(chord, len(matching)) or not _fits_behind(chord, matching[:index]):
            raise InvalidMatching(index)


def _fits_behind(chord, earlier):
    """Return whether a chord can stand behind the earlier chords of a matching."""
    low, high = chord
    if earlier and low <= earlier[-1][0]:
        return False
    # Both points are greater than the first points of all earlier chords.
    ends = [end for _, end in earlier]
    return low not in ends and high not in ends


def is_matching(value):
    """Return whether a value of any kind is a matching."""
    try:
        validate_matching(value)
    except InvalidMatching:
        return False
    return True


def crossings(matching):
    """Return all crossings of a matching, in ascending order."""
    validate_matching(matching)
    found = []
    for index, (i, k) in enumerate(matching):
        found.extend([(i, j, k, l) for j, l in matching[index + 1:] if j < k < l])
    return tuple(found)


def is_crossing(value, matching):
    """Return whether a value of any kind is a crossing of a matching."""
    # Items that are no integers are not compared: True equals 1.
    if not isinstance(value, tuple) or not all([is_true_integer(item) for item in value]):
        return False
    return value in crossings(matching)


def uncross(matching, crossing):
    """Return the two matchings that uncrossing a crossing of a matching makes."""
    validate_matching(matching)
    if not is_crossing(crossing, matching):
        raise InvalidCrossing(crossing)
    i, j, k, l = crossing
    kept = [chord for chord in matching if chord != (i, k) and chord != (j, l)]
    return tuple(sorted([*kept, (i, j), (k, l)])), tuple(sorted([*kept, (i, l), (j, k)]))


def rotate_matching(matching, *, steps=1):
    """Return the matching in which every point p is renumbered as p - steps, around the circle."""
    validate_matching(matching)
    validate_steps(steps)
    count = 2 * len(matching)
    # The empty matching has no points, so nothing is divided by its count of 0.
    return _renumbered(matching, [(point - steps - 1) % count + 1 for point in range(1, count + 1)])


def reflect_matching(matching):
    """Return the matching in which the points are numbered in reverse order."""
    validate_matching(matching)
    return _renumbered(matching, list(range(2 * len(matching), 0, -1)))


def _renumbered(matching, numbers):
    """Return the matching in which point p has the number with the index p - 1."""
    chords = [(numbers[low - 1], numbers[high - 1]) for low, high in matching]
    return tuple(sorted([(min(chord), max(chord)) for chord in chords]))


def matching_count(size):
    """Return the number of matchings of a size."""
    validate_size(size, 0, MOST_SIZE)
    count = 1
    # The first free point is joined to one of the others, again and again.
    for others in range(1, 2 * size, 2):
        count *= others
    return count
