"""Diagrams that a rotation or a reflection fixes, and the orbits of diagrams."""

from math import comb, gcd

from chordturn.checks import validate_size, validate_steps
from chordturn.diagrams import all_diagrams, reflect, rotate, validate_diagram
from chordturn.errors import TooLarge
from chordturn.numbering import word_count
from chordturn.polynomials import cyclotomic, divide, q_catalan
from chordturn.words import MOST_SIZE

MOST_LISTED = 8


def order_of(size, steps):
    """Return how many rotations by the steps lead all the way around for the first time."""
    validate_size(size, 1, MOST_SIZE)
    validate_steps(steps)
    return 2 * size // gcd(2 * size, steps)


def is_fixed(diagram, steps):
    """Return whether rotating a diagram by the steps does not change it."""
    return rotate(diagram, steps=steps) == diagram


def _validate_size_and_steps(size, steps):
    """Raise the error that is due if two values are not a size and a number of steps."""
    validate_size(size, 0, MOST_SIZE)
    validate_steps(steps)


def fixed_count(size, steps):
    """Return the number of diagrams of a size that the steps fix, by a closed formula."""
    _validate_size_and_steps(size, steps)
    if size == 0:
        return 1
    order = order_of(size, steps)
    if order == 1:
        return word_count(size)
    points = 2 * size // order
    if points % 2 == 0:
        return comb(points, points // 2)
    if order == 2:
        return comb(size, (size - 1) // 2)
    return 0


def fixed_by_remainder(size, steps):
    """Return the number of diagrams of a size that the steps fix, as a remainder of polynomials."""
    _validate_size_and_steps(size, steps)
    if size == 0:
        return 1
    _, remainder = divide(q_catalan(size), cyclotomic(order_of(size, steps)))
    return remainder[0] if remainder else 0


def fixed_diagrams(size, steps):
    """Return all diagrams of a size that the steps fix, in ascending order."""
    _validate_size_and_steps(size, steps)
    if size > MOST_LISTED:
        raise TooLarge(MOST_LISTED)
    return tuple([diagram for diagram in all_diagrams(size) if is_fixed(diagram, steps)])


def reflection_counts(size):
    """Return the numbers of diagrams that reflecting, or reflecting and rotating by 1, does not change."""
    validate_size(size, 0, MOST_SIZE)
    reflected = comb(size, size // 2)
    if size == 0:
        return reflected, 1
    if size % 2 == 0:
        return reflected, 0
    return reflected, word_count((size - 1) // 2)


def orbit(diagram):
    """Return all different rotations of a diagram, in ascending order."""
    validate_diagram(diagram)
    return tuple(sorted({rotate(diagram, steps=steps) for steps in range(2 * len(diagram) + 1)}))


def full_orbit(diagram):
    """Return all different rotations of a diagram and of its reflection, in ascending order."""
    return tuple(sorted(set(orbit(diagram) + orbit(reflect(diagram)))))


def orbit_counts(size):
    """Return the numbers of orbits and of full orbits of a size."""
    validate_size(size, 0, MOST_SIZE)
    if size == 0:
        return 1, 1
    # The number of orbits is the mean, over all moves, of the numbers of diagrams that do not change.
    rotations = sum([fixed_count(size, steps) for steps in range(2 * size)])
    reflections = size * sum(reflection_counts(size))
    return rotations // (2 * size), (rotations + reflections) // (4 * size)
