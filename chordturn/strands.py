"""Diagrams read as strand diagrams, which can be stacked."""

from chordturn.checks import is_integer_within, validate_same_size, validate_size
from chordturn.diagrams import joined_points, validate_diagram
from chordturn.errors import InvalidGenerator, TooLarge
from chordturn.loops import loop_count, traced_loops
from chordturn.words import MOST_SIZE

MOST_FACTORED = 6


def identity(size):
    """Return the strand diagram that joins every top point to the bottom point with the same number."""
    validate_size(size, 0, MOST_SIZE)
    return _nested_chords(size)


def _nested_chords(size):
    """Return the chords that join each of the first points to the one at the same distance from the end."""
    return tuple([(point, 2 * size + 1 - point) for point in range(1, size + 1)])


def generator(size, number):
    """Return the strand diagram that joins two neighbouring top points, and the bottom points below them."""
    validate_size(size, 0, MOST_SIZE)
    _validate_number(number, size)
    return _generator(size, number)


def _validate_number(number, size):
    """Raise InvalidGenerator if a value of any kind is not the number of a generator of the size."""
    if not is_integer_within(number, 1, size - 1):
        raise InvalidGenerator(number)


def _generator(size, number):
    """Return the generator with a valid number."""
    pairs = [(number, number + 1), (2 * size - number, 2 * size + 1 - number)]
    through = [chord for chord in _nested_chords(size) if chord[0] not in pairs[0]]
    return tuple(sorted(pairs + through))


def stack(upper, lower):
    """Return the stack of two strand diagrams, and the number of loops that are removed from it."""
    validate_diagram(upper)
    validate_diagram(lower)
    validate_same_size(len(upper), len(lower))
    return _stacked(upper, lower)


def _stacked(upper, lower):
    """Return the stack of two strand diagrams of the same size, and the number of removed loops."""
    size = len(upper)
    # The lower one gets the points behind those of the upper one. Then the points of the
    # middle, and only they, are numbered from size + 1 to 3 * size, and nested chords join
    # those that meet. These chords join the outer points among themselves.
    both = upper + tuple([(low + 2 * size, high + 2 * size) for low, high in lower])
    joined = joined_points(both)
    starts = list(range(1, size + 1)) + list(range(3 * size + 1, 4 * size + 1))
    ends = [_outer_end(joined, start) for start in starts]
    chords = [(start, end) for start, end in zip(starts, ends) if start < end]
    removed = [loop for loop in traced_loops(both, _nested_chords(2 * size)) if loop[0] > size]
    return tuple([(_closed_up(low, size), _closed_up(high, size)) for low, high in chords]), len(removed)


def _outer_end(joined, start):
    """Return the outer point at which the strand from an outer point ends, for joined points of two diagrams."""
    size = len(joined) // 4
    point = joined[start]
    while size < point <= 3 * size:
        point = joined[4 * size + 1 - point]
    return point


def _closed_up(point, size):
    """Return the number that an outer point has after the points of the middle are removed."""
    return point if point <= size else point - 2 * size


def stack_all(size, numbers):
    """Return the stack of the generators with these numbers, and the number of loops that are removed."""
    validate_size(size, 0, MOST_SIZE)
    if not isinstance(numbers, tuple):
        raise InvalidGenerator(numbers)
    for number in numbers:
        _validate_number(number, size)
    stacked = identity(size)
    total = 0
    for number in numbers:
        stacked, removed = _stacked(stacked, _generator(size, number))
        total += removed
    return stacked, total


def through_strands(diagram):
    """Return the number of chords that join a top point to a bottom point."""
    validate_diagram(diagram)
    size = len(diagram)
    return len([chord for chord in diagram if chord[0] <= size < chord[1]])


def factorization(diagram):
    """Return the shortest tuple of generator numbers whose stack is the diagram; of several, the smallest one."""
    validate_diagram(diagram)
    size = len(diagram)
    if size > MOST_FACTORED:
        raise TooLarge(MOST_FACTORED)
    known = {identity(size): ()}
    level = [identity(size)]
    while diagram not in known:
        level = _next_level(level, known)
    return known[diagram]


def _next_level(level, known):
    """Add to the dict the factorizations that are longer by one, and return their diagrams in the same order."""
    # Ascending tuples, with ascending numbers behind them, are ascending again. So what
    # finds a diagram first is the smallest of its shortest tuples.
    following = []
    for upper in level:
        for number in range(1, len(upper)):
            diagram, _ = _stacked(upper, _generator(len(upper), number))
            if diagram not in known:
                known[diagram] = known[upper] + (number,)
                following.append(diagram)
    return following


def closure_loops(diagram):
    """Return the number of loops after joining every top point to the bottom point with the same number."""
    validate_diagram(diagram)
    return loop_count(diagram, identity(len(diagram)))
