"""The values of matchings and sums at matrices, and matrices that tell sums apart."""

from chordturn.checks import is_integer_within, is_pair, is_true_integer
from chordturn.errors import Equivalent, InvalidMatrix
from chordturn.expansions import MOST_EXPANDED, add_sums, common_size, expand, validate_sum
from chordturn.matchings import validate_matching
from chordturn.words import MOST_SIZE


def value_of(matching, matrix):
    """Return the value of a matching at a matrix."""
    validate_matching(matching)
    _validate_matrix(matrix, len(matching), len(matching))
    return _product_of_chords(matching, matrix)


def _validate_matrix(matrix, low, high):
    """Raise InvalidMatrix if a value of any kind is not a matrix of a size from low to high."""
    if not isinstance(matrix, tuple) or len(matrix) % 2 == 1:
        raise InvalidMatrix(None)
    if not is_integer_within(len(matrix), 2 * low, 2 * high):
        raise InvalidMatrix(None)
    for index, column in enumerate(matrix):
        if not is_pair(column) or not all([is_true_integer(item) for item in column]):
            raise InvalidMatrix(index)


def _product_of_chords(matching, matrix):
    """Return the product of the values of the chords."""
    result = 1
    for i, j in matching:
        x, y = matrix[i - 1]
        other_x, other_y = matrix[j - 1]
        result *= x * other_y - other_x * y
    return result


def value_of_sum(terms, matrix):
    """Return the value of a sum at a matrix."""
    validate_sum(terms)
    if terms:
        _validate_matrix(matrix, common_size(terms), common_size(terms))
    else:
        _validate_matrix(matrix, 0, MOST_EXPANDED)
    return sum([coefficient * _product_of_chords(matching, matrix) for matching, coefficient in terms.items()])


def rotate_matrix(matrix):
    """Return the matrix at which a matching rotated by 1 has its old value."""
    _validate_matrix(matrix, 0, MOST_SIZE)
    return matrix[1:] + tuple([(-x, -y) for x, y in matrix[:1]])


def witness(terms, others):
    """Return the matrix of the document at which two sums that are not equivalent have different values."""
    difference = expand(add_sums(terms, others, factor=-1))
    size = common_size(terms) if terms else common_size(others)
    if not difference:
        raise Equivalent(size)
    weight = sum([abs(coefficient) for coefficient in difference.values()])
    # Each column has the square of the number in the column behind it.
    number = (weight << size) + 1
    columns = []
    for _ in range(2 * size):
        columns.append((number, 1))
        number *= number
    return tuple(reversed(columns))
