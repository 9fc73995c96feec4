"""The numbers of the words of a size, in the order of the strings."""

from math import comb

from chordturn.checks import is_integer_within, validate_size
from chordturn.errors import InvalidNumber
from chordturn.words import MOST_SIZE, size_of

MOST_COUNTED = 500


def word_count(size):
    """Return the number of words of a size, also of sizes that have no words in the package."""
    validate_size(size, 0, MOST_COUNTED)
    return _completions(0, 2 * size)


def completion_count(height, length):
    """Return the number of completions of a height that have this length."""
    validate_size(height, 0, MOST_COUNTED)
    validate_size(length, 0, MOST_COUNTED)
    return _completions(height, length)


def _completions(height, length):
    """Return the number of completions, of any height and length that are not negative."""
    if (height + length) % 2 == 1:
        return 0
    falls = (height + length) // 2
    # Of all strings with so many letters D, those that go below 0 are as many as the
    # strings with one more D: exchange the letters behind the first step below 0.
    return comb(length, falls) - comb(length, falls + 1)


def word_at(size, number):
    """Return the word of a size with this number."""
    validate_size(size, 0, MOST_SIZE)
    if not is_integer_within(number, 0, word_count(size) - 1):
        raise InvalidNumber(number)
    letters = []
    height = 0
    rest = number
    for left in range(2 * size - 1, -1, -1):
        smaller = _smaller_count(height, left)
        if rest < smaller:
            letters.append("D")
            height -= 1
        else:
            letters.append("U")
            height += 1
            rest -= smaller
    return "".join(letters)


def _smaller_count(height, left):
    """Return how many completions of a height begin with D and have so many letters left behind it."""
    if height == 0:
        return 0
    return _completions(height - 1, left)


def number_of(word):
    """Return the number of a word."""
    left = 2 * size_of(word)
    number = 0
    height = 0
    for letter in word:
        left -= 1
        if letter == "U":
            number += _smaller_count(height, left)
            height += 1
        else:
            height -= 1
    return number


def next_word(word):
    """Return the word of the same size with the next number, or None for the last word."""
    number = number_of(word) + 1
    size = size_of(word)
    if number == word_count(size):
        return None
    return word_at(size, number)


def previous_word(word):
    """Return the word of the same size with the previous number, or None for the first word."""
    number = number_of(word) - 1
    if number < 0:
        return None
    return word_at(size_of(word), number)
