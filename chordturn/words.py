"""Balanced words of the letters U and D."""

from chordturn.checks import is_point
from chordturn.errors import EmptyWord, InvalidPoint, InvalidSize, InvalidWord

MOST_SIZE = 30


def validate_word(word):
    """Raise InvalidWord if a value of any kind is not a word."""
    if not isinstance(word, str) or len(word) > 2 * MOST_SIZE:
        raise InvalidWord(None)
    height = 0
    for index, letter in enumerate(word):
        if letter == "U":
            height += 1
        elif letter == "D" and height > 0:
            height -= 1
        else:
            raise InvalidWord(index)
    if height > 0:
        raise InvalidWord(len(word))


def is_word(value):
    """Return whether a value of any kind is a word."""
    try:
        validate_word(value)
    except InvalidWord:
        return False
    return True


def size_of(word):
    """Return the size of a word."""
    validate_word(word)
    return len(word) // 2


def partner(word, point):
    """Return the point that a point is joined to."""
    joined = partners(word)
    if not is_point(point, size_of(word)):
        raise InvalidPoint(point)
    return joined[point - 1]


def partners(word):
    """Return the partners of all points, in order."""
    validate_word(word)
    joined = [0] * len(word)
    waiting = []
    for point, letter in enumerate(word, start=1):
        if letter == "U":
            waiting.append(point)
        else:
            opener = waiting.pop()
            joined[opener - 1] = point
            joined[point - 1] = opener
    return tuple(joined)


def heights(word):
    """Return the heights of all prefixes, from the empty one to the whole word."""
    validate_word(word)
    height = 0
    found = [height]
    for letter in word:
        if letter == "U":
            height += 1
        else:
            height -= 1
        found.append(height)
    return tuple(found)


def touch_points(word):
    """Return the points whose prefix has the height 0, in ascending order."""
    levels = heights(word)
    return tuple([point for point in range(1, len(levels)) if levels[point] == 0])


def first_parts(word):
    """Return the pair of words inside and behind the chord of the first letter."""
    joined = partners(word)
    if not word:
        raise EmptyWord(0)
    closer = joined[0]
    return word[1:closer - 1], word[closer:]


def from_parts(inner, rest):
    """Return the word whose parts inside and behind the chord of the first letter are given."""
    size = size_of(inner) + size_of(rest) + 1
    if size > MOST_SIZE:
        raise InvalidSize(size)
    return "U" + inner + "D" + rest


def reversed_word(word):
    """Return the word read from its end, with the letters exchanged."""
    validate_word(word)
    return "".join(["D" if letter == "U" else "U" for letter in reversed(word)])
