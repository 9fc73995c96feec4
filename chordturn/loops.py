"""The loops of two diagrams that are drawn on the same points."""

from chordturn.checks import validate_same_size, validate_size
from chordturn.diagrams import all_diagrams, joined_points, validate_diagram
from chordturn.errors import TooLarge
from chordturn.words import MOST_SIZE

MOST_TABLED = 5


def loops(inner, outer):
    """Return the loops of two diagrams, each from its smallest point on, in ascending order."""
    validate_diagram(inner)
    validate_diagram(outer)
    validate_same_size(len(inner), len(outer))
    return tuple(traced_loops(inner, outer))


def traced_loops(inner, outer):
    """Return the list of the loops of two tuples of chords on the same points, however many."""
    inside = joined_points(inner)
    outside = joined_points(outer)
    seen = set()
    found = []
    for start in range(1, 2 * len(inner) + 1):
        if start not in seen:
            loop = _loop_from(inside, outside, start)
            found.append(loop)
            for point in loop:
                seen.add(point)
    return found


def _loop_from(inside, outside, start):
    """Return the points of the loop through a point, which come in pairs that an inner chord joins."""
    loop = []
    point = start
    while not loop or point != start:
        loop.extend([point, inside[point]])
        point = outside[inside[point]]
    return tuple(loop)


def loop_count(inner, outer):
    """Return the number of loops of two diagrams."""
    return len(loops(inner, outer))


def loop_table(size):
    """Return the numbers of loops of all pairs of diagrams of a size, a row for each first one."""
    validate_size(size, 0, MOST_SIZE)
    if size > MOST_TABLED:
        raise TooLarge(MOST_TABLED)
    diagrams = all_diagrams(size)
    return tuple([tuple([len(traced_loops(inner, outer)) for outer in diagrams]) for inner in diagrams])
