"""Polynomials with integer coefficients, q-Catalan and cyclotomic polynomials."""

from chordturn.checks import is_true_integer, validate_size
from chordturn.errors import InvalidPolynomial
from chordturn.words import MOST_SIZE

MOST_ORDER = 60


def validate_polynomial(polynomial):
    """Raise InvalidPolynomial if a value of any kind is not a polynomial."""
    if not isinstance(polynomial, tuple):
        raise InvalidPolynomial(None)
    for index, coefficient in enumerate(polynomial):
        if not is_true_integer(coefficient):
            raise InvalidPolynomial(index)
    if polynomial and polynomial[-1] == 0:
        raise InvalidPolynomial(len(polynomial) - 1)


def multiply(polynomial, factor):
    """Return the product of two polynomials."""
    validate_polynomial(polynomial)
    validate_polynomial(factor)
    total = [0] * (len(polynomial) + len(factor))
    for power, coefficient in enumerate(polynomial):
        _add_multiple(total, factor, coefficient, power)
    return _trimmed(total)


def _add_multiple(total, polynomial, factor, shift):
    """Add a polynomial, multiplied by a factor and by a power of q, to a list of coefficients."""
    if factor == 0:
        return
    for power, coefficient in enumerate(polynomial, start=shift):
        total[power] += factor * coefficient


def _trimmed(coefficients):
    """Return the polynomial of a list of coefficients that may end with zeros."""
    length = len(coefficients)
    while length > 0 and coefficients[length - 1] == 0:
        length -= 1
    return tuple(coefficients[:length])


def divide(polynomial, divisor):
    """Return the quotient and the remainder of a polynomial by one whose last coefficient is 1."""
    validate_polynomial(polynomial)
    validate_polynomial(divisor)
    if not divisor:
        raise InvalidPolynomial(None)
    if divisor[-1] != 1:
        raise InvalidPolynomial(len(divisor) - 1)
    rest = list(polynomial)
    quotient = []
    for shift in range(len(polynomial) - len(divisor), -1, -1):
        coefficient = rest[shift + len(divisor) - 1]
        quotient.append(coefficient)
        _add_multiple(rest, divisor, -coefficient, shift)
    return tuple(reversed(quotient)), _trimmed(rest)


def q_catalan(size):
    """Return the q-Catalan polynomial of a size."""
    validate_size(size, 0, MOST_SIZE)
    coefficients = [1]
    # A q-number is (1 - q ** k) / (1 - q). Apart from those that cancel, as many of them are
    # multiplied as divide, so 1 - q cancels too.
    for power in range(size + 2, 2 * size + 1):
        coefficients = _multiplied(coefficients, power)
    for power in range(2, size + 1):
        coefficients = _divided(coefficients, power)
    return tuple(coefficients)


def _multiplied(coefficients, power):
    """Return the coefficients of the product with 1 - q ** power."""
    shift = [0] * power
    return [kept - moved for kept, moved in zip(coefficients + shift, shift + coefficients)]


def _divided(coefficients, power):
    """Return the coefficients of the quotient by 1 - q ** power, which leaves no remainder."""
    quotient = []
    for index in range(len(coefficients) - power):
        before = quotient[index - power] if index >= power else 0
        quotient.append(coefficients[index] + before)
    return quotient


def cyclotomic(order):
    """Return the cyclotomic polynomial of an order."""
    validate_size(order, 1, MOST_ORDER)
    found = {}
    for divisor in range(1, order + 1):
        if order % divisor == 0:
            found[divisor] = _next_cyclotomic(divisor, found)
    return found[order]


def _next_cyclotomic(order, smaller):
    """Return the cyclotomic polynomial of an order, given those of its smaller divisors, and perhaps others."""
    polynomial = (-1,) + (0,) * (order - 1) + (1,)
    for divisor, known in smaller.items():
        if order % divisor == 0:
            polynomial, _ = divide(polynomial, known)
    return polynomial
