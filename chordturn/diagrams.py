"""Chord diagrams without crossings, their rotation and their reflection."""

from chordturn.checks import is_chord, is_point
from chordturn.errors import InvalidDiagram, InvalidPoint
from chordturn.matchings import reflect_matching, rotate_matching
from chordturn.numbering import word_at, word_count
from chordturn.words import MOST_SIZE, partners


def validate_diagram(diagram):
    """Raise InvalidDiagram if a value of any kind is not a diagram."""
    if not isinstance(diagram, tuple) or len(diagram) > MOST_SIZE:
        raise InvalidDiagram(None)
    for index, chord in enumerate(diagram):
        if not is_chord(chord, len(diagram)) or not _fits_behind(chord, diagram[:index]):
            raise InvalidDiagram(index)


def _fits_behind(chord, earlier):
    """Return whether a chord can stand behind the earlier chords of a diagram."""
    low, high = chord
    if earlier and low <= earlier[-1][0]:
        return False
    # A chord that begins later than another one lies behind it or inside it. In every
    # other case the two cross or share a point.
    return all([end < low or high < end for _, end in earlier])


def is_diagram(value):
    """Return whether a value of any kind is a diagram."""
    try:
        validate_diagram(value)
    except InvalidDiagram:
        return False
    return True


def diagram_of(word):
    """Return the diagram of a word."""
    joined = partners(word)
    return tuple([(point, other) for point, other in enumerate(joined, start=1) if point < other])


def word_of_diagram(diagram):
    """Return the word of a diagram."""
    validate_diagram(diagram)
    openers = [low for low, _ in diagram]
    return "".join(["U" if point in openers else "D" for point in range(1, 2 * len(diagram) + 1)])


def joined_to(diagram, point):
    """Return the point that a point is joined to."""
    validate_diagram(diagram)
    if not is_point(point, len(diagram)):
        raise InvalidPoint(point)
    return joined_points(diagram)[point]


def joined_points(chords):
    """Return the dict from each point of the chords to the point that it is joined to."""
    joined = {}
    for low, high in chords:
        joined[low] = high
        joined[high] = low
    return joined


def all_diagrams(size):
    """Return the list of all diagrams of a size, in ascending order."""
    # The order of the diagrams is not that of their words.
    return sorted([diagram_of(word_at(size, number)) for number in range(word_count(size))])


def depths(diagram):
    """Return the depths of all chords, in the order of the diagram."""
    validate_diagram(diagram)
    return tuple([len(_enclosing(diagram, chord)) for chord in diagram])


def _enclosing(diagram, chord):
    """Return the chords of a diagram that enclose a chord."""
    low, high = chord
    return [other for other in diagram if other[0] < low and high < other[1]]


def short_chords(diagram):
    """Return the chords that join neighbours on the circle, in the order of the diagram."""
    validate_diagram(diagram)
    around = (1, 2 * len(diagram))
    return tuple([chord for chord in diagram if chord[1] == chord[0] + 1 or chord == around])


def rotate(diagram, *, steps=1):
    """Return the diagram in which every point p is renumbered as p - steps, around the circle."""
    validate_diagram(diagram)
    return rotate_matching(diagram, steps=steps)


def reflect(diagram):
    """Return the diagram in which the points are numbered in reverse order."""
    validate_diagram(diagram)
    return reflect_matching(diagram)
