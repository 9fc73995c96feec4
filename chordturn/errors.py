"""The error classes of the package: three bases, and one class for each kind of failure."""


class ChordError(ValueError):
    """The base of the errors for arguments that are not valid."""


class ChordStateError(RuntimeError):
    """The base of the errors for valid arguments that an operation is not defined for."""


class ChordLookupError(LookupError):
    """The base of the errors for something that was looked up and is not there."""


class InvalidSize(ChordError):
    """The value is not a size that the function takes, or the result would be too large."""

    def __init__(self, size):
        self.size = size


class InvalidWord(ChordError):
    """The value is not a word; position is the place of the first violation."""

    def __init__(self, position):
        self.position = position


class InvalidTableau(ChordError):
    """The value is not a tableau; place is the cell of the first violation, or None."""

    def __init__(self, place):
        self.place = place


class InvalidDiagram(ChordError):
    """The value is not a diagram; index is that of the first wrong chord, or None."""

    def __init__(self, index):
        self.index = index


class InvalidPartition(ChordError):
    """The value is not a non-crossing partition; index is that of the first wrong block, or None."""

    def __init__(self, index):
        self.index = index


class InvalidPoint(ChordError):
    """The value is not a point of the size."""

    def __init__(self, point):
        self.point = point


class InvalidSteps(ChordError):
    """The value is not a number of steps."""

    def __init__(self, steps):
        self.steps = steps


class InvalidNumber(ChordError):
    """The value is not the number of a word of the size."""

    def __init__(self, number):
        self.number = number


class InvalidMatching(ChordError):
    """The value is not a matching; index is that of the first wrong chord, or None."""

    def __init__(self, index):
        self.index = index


class InvalidCrossing(ChordError):
    """The value is not a crossing of the matching."""

    def __init__(self, crossing):
        self.crossing = crossing


class InvalidSum(ChordError):
    """The value is not a sum; key is the first wrong key, or None."""

    def __init__(self, key):
        self.key = key


class InvalidCertificate(ChordError):
    """The value is not a certificate for the sum; step is the index of the first wrong step, or None."""

    def __init__(self, step):
        self.step = step


class InvalidMatrix(ChordError):
    """The value is not a matrix of the size; index is that of the first wrong column, or None."""

    def __init__(self, index):
        self.index = index


class InvalidPolynomial(ChordError):
    """The value is not a polynomial; index is that of the first wrong coefficient, or None."""

    def __init__(self, index):
        self.index = index


class InvalidGenerator(ChordError):
    """The value is not the number of a generator of the size."""

    def __init__(self, number):
        self.number = number


class TooLarge(ChordError):
    """The size is greater than the limit of the function."""

    def __init__(self, limit):
        self.limit = limit


class EmptyWord(ChordStateError):
    """The word is empty and so has no first letter; size is its size."""

    def __init__(self, size):
        self.size = size


class SizesDiffer(ChordStateError):
    """The two arguments have different sizes; sizes is the pair of both."""

    def __init__(self, sizes):
        self.sizes = sizes


class Equivalent(ChordStateError):
    """The two sums are equivalent, so nothing tells them apart; size is their size."""

    def __init__(self, size):
        self.size = size


class MissingTerm(ChordLookupError):
    """The matching does not occur in the sum."""

    def __init__(self, matching):
        self.matching = matching
