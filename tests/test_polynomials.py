import copy
import unittest
from itertools import product
from math import gcd

from chordturn.errors import InvalidPolynomial, InvalidSize
from chordturn.polynomials import cyclotomic, divide, multiply, q_catalan, validate_polynomial
from tests.support import CATALAN, assert_raises_field, assert_same, scattered, words_of_size
from tests.wrong import no_polynomials, no_sizes

COUNT_30 = 3814986502092304
PRIME = 2 ** 521 - 1
PLACES = (0, 1, -1, 2, 10 ** 60, 3 ** 300, PRIME // 7)


def trimmed(coefficients):
    found = list(coefficients)
    while found and found[-1] == 0:
        found.pop()
    return tuple(found)


def product_of(one, other):
    """The product, a coefficient at a time."""
    return trimmed(
        sum(one[a] * other[power - a] for a in range(len(one)) if 0 <= power - a < len(other))
        for power in range(len(one) + len(other))
    )


def sum_of_two(one, other):
    size = max(len(one), len(other))
    pad = [list(coefficients) + [0] * (size - len(coefficients)) for coefficients in (one, other)]
    return trimmed(a + b for a, b in zip(*pad))


def value_at(coefficients, q):
    """The value of a polynomial, modulo a large prime."""
    result = 0
    for coefficient in reversed(coefficients):
        result = (result * q + coefficient) % PRIME
    return result


def scattered_polynomial(length, number, digits=1, monic=False):
    numbers = scattered(number)
    found = []
    for _ in range(length):
        coefficient = next(numbers) % 19 - 9
        for _ in range(digits // 4):
            coefficient = coefficient * 10000 + next(numbers) % 10000
        found.append(coefficient)
    if found:
        found[-1] = 1 if monic else found[-1] or 5
    return tuple(found)


def small_polynomials():
    """All polynomials of up to three coefficients from -2 to 2."""
    return [found for length in range(4) for found in product(range(-2, 3), repeat=length) if not found or found[-1]]


def q_number(k):
    return (1,) * k


def q_factorials(most):
    found = [(1,)]
    for k in range(1, most + 1):
        found.append(multiply(q_number(k), found[-1]))
    return found


class Validation(unittest.TestCase):
    def test_the_examples_of_the_interface(self):
        assert_raises_field(self, InvalidPolynomial, "index", 1, validate_polynomial, (1, 0))

    def test_polynomials(self):
        for polynomial in small_polynomials():
            self.assertIsNone(validate_polynomial(polynomial))
        for length in (0, 1, 2, 1999, 2000):
            for number in range(3):
                self.assertIsNone(validate_polynomial(scattered_polynomial(length, number, 996 // (1 + number))))
        self.assertIsNone(validate_polynomial((0,) * 1999 + (-(10 ** 999),)))
        self.assertIsNone(validate_polynomial(polynomial=(0, 0, 1)))

    def test_values_of_every_kind(self):
        for value, index in no_polynomials():
            assert_raises_field(self, InvalidPolynomial, "index", index, validate_polynomial, value)
            assert_raises_field(self, InvalidPolynomial, "index", index, validate_polynomial, polynomial=value)


class Faults(unittest.TestCase):
    """The errors of the other functions."""

    def test_the_first_polynomial_is_checked_before_the_second_one(self):
        for value, index in no_polynomials():
            for function in (multiply, divide):
                for other in ((), (1,), (0, 2), (5,), (1, 0), None, [1]):
                    assert_raises_field(self, InvalidPolynomial, "index", index, function, value, other)
                for other in ((), (1,), (0, 2), (-3, 0, 1)):
                    assert_raises_field(self, InvalidPolynomial, "index", index, function, other, value)
            assert_raises_field(self, InvalidPolynomial, "index", index, multiply, factor=value, polynomial=(1,))
            assert_raises_field(self, InvalidPolynomial, "index", index, divide, divisor=value, polynomial=(1,))
        assert_raises_field(self, InvalidPolynomial, "index", 2, divide, (1, 1, 0), (True,))

    def test_divisors_whose_last_coefficient_is_not_1(self):
        for polynomial in ((), (1,), (0, 2), (1,) * 30):
            assert_raises_field(self, InvalidPolynomial, "index", None, divide, polynomial, ())
            for divisor in small_polynomials()[1:] + [(-1,), (1, 10 ** 999), (1, 1, -1), (1,) * 1999 + (2,)]:
                if divisor[-1] != 1:
                    found = len(divisor) - 1
                    assert_raises_field(self, InvalidPolynomial, "index", found, divide, polynomial, divisor)
                    assert_raises_field(
                        self, InvalidPolynomial, "index", found, divide, divisor=divisor, polynomial=polynomial,
                    )
        assert_raises_field(self, InvalidPolynomial, "index", 1, divide, (1, 0), ())
        assert_raises_field(self, InvalidPolynomial, "index", 0, divide, (None,), (1, 2))

    def test_sizes_and_orders(self):
        for value in no_sizes(0, 30):
            assert_raises_field(self, InvalidSize, "size", value, q_catalan, value)
            assert_raises_field(self, InvalidSize, "size", value, q_catalan, size=value)
        for value in no_sizes(1, 60):
            assert_raises_field(self, InvalidSize, "size", value, cyclotomic, value)
            assert_raises_field(self, InvalidSize, "size", value, cyclotomic, order=value)

    def test_wrong_arguments_are_not_modified(self):
        for value in ([1, 0], {0: [1]}, ([1],), (1, [0]), [[1]]):
            before = copy.deepcopy(value)
            self.assertRaises(InvalidPolynomial, validate_polynomial, value)
            for function in (multiply, divide):
                self.assertRaises(InvalidPolynomial, function, value, (1,))
                self.assertRaises(InvalidPolynomial, function, (1,), value)
            self.assertRaises(InvalidSize, q_catalan, value)
            self.assertRaises(InvalidSize, cyclotomic, value)
            self.assertEqual(value, before)


class Products(unittest.TestCase):
    def test_the_examples_of_the_interface(self):
        assert_same(self, multiply((1, 1), (-1, 1)), (-1, 0, 1))

    def test_the_definition(self):
        for one, other in product(small_polynomials(), repeat=2):
            assert_same(self, multiply(one, other), product_of(one, other))
        for length, more in product((1, 2, 3, 10, 40), repeat=2):
            one, other = scattered_polynomial(length, 1, 40), scattered_polynomial(more, 2, 900)
            assert_same(self, multiply(factor=other, polynomial=one), product_of(one, other))

    def test_zero_and_one(self):
        for polynomial in small_polynomials() + [scattered_polynomial(2000, 4)]:
            assert_same(self, multiply(polynomial, ()), ())
            assert_same(self, multiply((), polynomial), ())
            assert_same(self, multiply(polynomial, (1,)), polynomial)
            assert_same(self, multiply((0, 0, -1), polynomial), trimmed((0, 0) + tuple(-c for c in polynomial)))

    def test_2000_coefficients(self):
        one, other = scattered_polynomial(2000, 1, 20), scattered_polynomial(2000, 2, 20)
        found = multiply(one, other)
        self.assertEqual(len(found), 3999)
        for q in PLACES:
            self.assertEqual(value_at(found, q), value_at(one, q) * value_at(other, q) % PRIME)
        one, other = scattered_polynomial(2000, 3, 996), scattered_polynomial(5, 5, 996)
        found = multiply(one, other)
        self.assertEqual(found, multiply(other, one))
        for q in PLACES:
            self.assertEqual(value_at(found, q), value_at(one, q) * value_at(other, q) % PRIME)
        assert_same(self, multiply((1,) * 2000, (-1, 1)), (-1,) + (0,) * 1999 + (1,))

    def test_the_rules_of_products(self):
        polynomials = [scattered_polynomial(length, length, 12) for length in (0, 1, 2, 5, 9)]
        for one, other, third in product(polynomials, repeat=3):
            self.assertEqual(multiply(one, other), multiply(other, one))
            self.assertEqual(multiply(multiply(one, other), third), multiply(one, multiply(other, third)))
            expected = sum_of_two(multiply(one, third), multiply(other, third))
            self.assertEqual(multiply(sum_of_two(one, other), third), expected)


class Quotients(unittest.TestCase):
    def check(self, polynomial, divisor):
        quotient, remainder = divide(polynomial, divisor)
        for part in (quotient, remainder):
            self.assertIs(part.__class__, tuple)
            self.assertIsNone(validate_polynomial(part))
        self.assertLess(len(remainder), len(divisor))
        assert_same(self, sum_of_two(multiply(quotient, divisor), remainder), polynomial)

    def test_the_examples_of_the_interface(self):
        assert_same(self, divide((1, 0, 1, 1, 1, 0, 1), (1, 1, 1)), ((-1, 1, 1, -1, 1), (2,)))

    def test_small_polynomials(self):
        for polynomial, divisor in product(small_polynomials(), repeat=2):
            if divisor and divisor[-1] == 1:
                self.check(polynomial, divisor)

    def test_polynomials_that_leave_no_remainder(self):
        for number in range(8):
            one = scattered_polynomial(3 * number, number, 15)
            divisor = scattered_polynomial(2 * number + 1, number + 1, 15, monic=True)
            assert_same(self, divide(product_of(one, divisor), divisor), (one, ()))

    def test_edges(self):
        for divisor in ((1,), (0, 1), (5, 1), (-1, 0, 0, 1), (1,) * 2000):
            result = divide(divisor=divisor, polynomial=())
            assert_same(self, result, ((), ()))
            self.assertIs(result.__class__, tuple)
            assert_same(self, divide(divisor, divisor), ((1,), ()))
        assert_same(self, divide((7, 8, 9), (1,)), ((7, 8, 9), ()))
        assert_same(self, divide((7, 8), (0, 0, 1)), ((), (7, 8)))
        assert_same(self, divide((7, 8, 9), (0, 1)), ((8, 9), (7,)))
        assert_same(self, divide((0, 0, 9), (0, 1)), ((0, 9), ()))
        assert_same(self, divide((0, 0, 0, 1), (0, 0, 1)), ((0, 1), ()))
        assert_same(self, divide((-6, 1, 1), (-2, 1)), ((3, 1), ()))

    def test_2000_coefficients(self):
        for length in (1, 2, 60, 1000, 1999, 2000):
            polynomial = scattered_polynomial(2000, length, 40)
            divisor = tuple(c % 3 - 1 for c in scattered_polynomial(length - 1, 7)) + (1,)
            quotient, remainder = divide(polynomial, divisor)
            self.assertEqual(len(quotient), 2001 - length)
            self.assertLess(len(remainder), length)
            for q in PLACES:
                found = value_at(quotient, q) * value_at(divisor, q) + value_at(remainder, q)
                self.assertEqual(found % PRIME, value_at(polynomial, q))
        whole = (-1,) + (0,) * 1998 + (1,)
        assert_same(self, divide(whole, (-1, 1)), ((1,) * 1999, ()))
        quotient, remainder = divide((1,) * 2000, (-10, 1))
        assert_same(self, quotient, tuple(int("1" * digits) for digits in range(1999, 0, -1)))
        assert_same(self, remainder, (int("1" * 2000),))


class QCatalan(unittest.TestCase):
    def test_the_examples_of_the_interface(self):
        assert_same(self, q_catalan(3), (1, 0, 1, 1, 1, 0, 1))
        assert_same(self, q_catalan(0), (1,))
        assert_same(self, q_catalan(size=1), (1,))
        assert_same(self, q_catalan(2), (1, 0, 1))

    def test_the_definition(self):
        factorials = q_factorials(60)
        self.assertEqual(factorials[4], product_of(product_of((1, 1), (1, 1, 1)), (1, 1, 1, 1)))
        for size in range(31):
            found = q_catalan(size)
            below = multiply(factorials[size], factorials[size + 1])
            assert_same(self, multiply(found, below), factorials[2 * size])
            assert_same(self, divide(factorials[2 * size], below), (found, ()))

    def test_the_number_of_words_at_1(self):
        count = 1
        for size in range(31):
            self.assertEqual(sum(q_catalan(size)), count)
            count = count * 2 * (2 * size + 1) // (size + 2)
        self.assertEqual(sum(q_catalan(30)), COUNT_30)

    def test_degrees_and_symmetry(self):
        for size in range(31):
            found = q_catalan(size)
            self.assertEqual(len(found), max(size * (size - 1), 0) + 1)
            self.assertEqual(found, found[::-1])
            self.assertEqual((found[0], found[-1]), (1, 1))

    def test_words_by_the_places_of_their_falls(self):
        # The coefficient of q ** k counts the words whose letters D with a U behind them have the places of sum k.
        for size in range(len(CATALAN)):
            counts = {}
            for word in words_of_size(size):
                places = sum(p for p in range(1, 2 * size) if word[p - 1:p + 1] == "DU")
                counts[places] = counts.get(places, 0) + 1
            expected = tuple(counts.get(power, 0) for power in range(max(counts) + 1))
            assert_same(self, q_catalan(size), expected)


class Cyclotomic(unittest.TestCase):
    def test_the_examples_of_the_interface(self):
        assert_same(self, cyclotomic(6), (1, -1, 1))

    def test_small_orders(self):
        expected = {
            1: (-1, 1), 2: (1, 1), 3: (1, 1, 1), 4: (1, 0, 1), 5: (1, 1, 1, 1, 1), 8: (1, 0, 0, 0, 1),
            9: (1, 0, 0, 1, 0, 0, 1), 10: (1, -1, 1, -1, 1), 12: (1, 0, -1, 0, 1), 15: (1, -1, 0, 1, -1, 1, 0, -1, 1),
        }
        for order, polynomial in expected.items():
            assert_same(self, cyclotomic(order=order), polynomial)

    def test_the_product_over_all_divisors(self):
        for order in range(1, 61):
            whole = (1,)
            for divisor in range(1, order + 1):
                if order % divisor == 0:
                    whole = product_of(whole, cyclotomic(divisor))
            assert_same(self, whole, (-1,) + (0,) * (order - 1) + (1,))

    def test_degrees(self):
        for order in range(1, 61):
            found = cyclotomic(order)
            degree = sum(gcd(k, order) == 1 for k in range(1, order + 1))
            self.assertEqual((len(found) - 1, found[-1]), (degree, 1))
            for coefficient in found:
                self.assertIn(coefficient, (-1, 0, 1))


if __name__ == "__main__":
    unittest.main()
