import copy
import unittest
from itertools import combinations, permutations, product

from chordturn.errors import Equivalent, InvalidMatching, InvalidMatrix, InvalidSum, SizesDiffer
from chordturn.expansions import certificate, expand, replace
from chordturn.matchings import crossings, rotate_matching, uncross
from chordturn.values import rotate_matrix, value_of, value_of_sum, witness
from tests.support import (
    added, assert_raises_field, assert_same, diagrams_of_size, expanded, large_matchings, no_text, pairings_of_size,
    sample_sums, scattered, scattered_sum, small_matchings, turned, turned_order,
)
from tests.wrong import CROSSED_5, CROSSED_6, CROSSED_30, FLAT_5, FLAT_30, no_matchings, no_matrices, no_sums

FLAT, CROSSED, NESTED = ((1, 2), (3, 4)), ((1, 3), (2, 4)), ((1, 4), (2, 3))
SINGLE = ((1, 2),)
SIX = ((1, 4), (2, 5), (3, 6))
BIG = 10 ** 20 - 1


def scattered_matrix(count, number, most=21):
    numbers = scattered(number)
    return tuple(tuple(next(numbers) % most - most // 2 for _ in range(2)) for _ in range(count))


def sample_matrices(count):
    """Matrices of so many columns: zeros, equal columns, ascending points, irregular ones, large integers."""
    found = [((0, 0),) * count, ((1, 1),) * count, tuple((point, 1) for point in range(count))]
    found += [tuple((1, -point ** 3) for point in range(count))]
    found += [scattered_matrix(count, number) for number in range(3)]
    found.append(tuple((x * 10 ** 900 + y, -y * 10 ** 990 - x) for x, y in scattered_matrix(count, 7)))
    return found


def chord_value(matrix, i, j):
    (x, y), (z, w) = matrix[i - 1], matrix[j - 1]
    return x * w - z * y


def value_by_definition(matching, matrix):
    result = 1
    for i, j in matching:
        result = chord_value(matrix, i, j) * result
    return result


def size_of_sum(terms):
    return len(list(terms)[0])


class Values(unittest.TestCase):
    def test_the_examples_of_the_interface(self):
        matrix = ((1, 0), (0, 1), (1, 1), (1, 2))
        assert_same(self, value_of(CROSSED, matrix), -1)
        assert_same(self, value_of_sum({FLAT: 2, NESTED: 1}, matrix), 0)

    def test_size_0(self):
        assert_same(self, value_of((), ()), 1)
        assert_same(self, value_of(matching=(), matrix=()), 1)
        assert_same(self, value_of_sum({(): -7}, ()), -7)

    def test_the_definition(self):
        for size in range(5):
            for matrix in sample_matrices(2 * size):
                for matching in pairings_of_size(size):
                    assert_same(self, value_of(matching, matrix), value_by_definition(matching, matrix))
        for matching in large_matchings():
            for matrix in sample_matrices(2 * len(matching)):
                found = value_of(matrix=matrix, matching=matching)
                assert_same(self, found, value_by_definition(matching, matrix))

    def test_single_chords(self):
        for (x, y), (z, w) in product(list(product(range(-2, 3), repeat=2)), repeat=2):
            assert_same(self, value_of(SINGLE, ((x, y), (z, w))), x * w - z * y)

    def test_the_value_of_a_matching_is_that_of_its_uncrossed_ones(self):
        matchings = [*small_matchings(), *pairings_of_size(5)[::13], *large_matchings()]
        for matching in matchings:
            for matrix in sample_matrices(2 * len(matching))[4:]:
                value = value_of(matching, matrix)
                for crossing in crossings(matching)[:12]:
                    first, second = uncross(matching, crossing)
                    self.assertEqual(value_of(first, matrix) + value_of(second, matrix), value)

    def test_the_value_of_a_sum(self):
        for terms in sample_sums():
            if terms:
                for matrix in sample_matrices(2 * size_of_sum(terms)):
                    expected = sum(terms[key] * value_by_definition(key, matrix) for key in terms)
                    assert_same(self, value_of_sum(terms, matrix), expected)
                    assert_same(self, value_of_sum(matrix=matrix, terms=turned_order(terms)), expected)
                    assert_same(self, value_of_sum(expand(terms), matrix), expected)

    def test_the_value_of_the_greatest_sums(self):
        terms = {matching: BIG - index for index, matching in enumerate(pairings_of_size(5))}
        for matrix in sample_matrices(10):
            expected = sum(terms[key] * value_by_definition(key, matrix) for key in terms)
            assert_same(self, value_of_sum(terms, matrix), expected)
            assert_same(self, value_of_sum(expand(terms), matrix), expected)

    def test_replacing_and_certificates_keep_the_value(self):
        for terms in sample_sums():
            if 0 < len(terms) < 20:
                matrices = sample_matrices(2 * size_of_sum(terms))[4:]
                expected = [value_of_sum(terms, matrix) for matrix in matrices]
                present = terms
                for step in certificate(terms)[:40]:
                    present = replace(present, *step)
                    for matrix, value in zip(matrices, expected):
                        if present:
                            self.assertEqual(value_of_sum(present, matrix), value)
                        else:
                            self.assertEqual(value, 0)

    def test_the_empty_sum(self):
        for count in (0, 2, 4, 6, 8, 10):
            for matrix in sample_matrices(count):
                assert_same(self, value_of_sum({}, matrix), 0)
        assert_same(self, value_of_sum(terms={}, matrix=()), 0)


class RotatedMatrices(unittest.TestCase):
    def test_the_examples_of_the_interface(self):
        assert_same(self, rotate_matrix(((1, 0), (2, 5))), ((2, 5), (-1, 0)))

    def test_the_definition(self):
        assert_same(self, rotate_matrix(()), ())
        for count in (2, 4, 10, 12, 30, 58, 60):
            for matrix in sample_matrices(count):
                x, y = matrix[0]
                assert_same(self, rotate_matrix(matrix=matrix), (*matrix[1:], (-x, -y)))

    def test_all_the_way_around_negates_every_column(self):
        for count in (2, 6, 60):
            for matrix in sample_matrices(count):
                found = matrix
                for _ in range(count):
                    found = rotate_matrix(found)
                assert_same(self, found, tuple((-x, -y) for x, y in matrix))

    def test_the_rotated_matching_has_the_old_value_at_the_rotated_matrix(self):
        for matching in small_matchings() + large_matchings() + [CROSSED_30, FLAT_30]:
            for matrix in sample_matrices(2 * len(matching)):
                value = value_of(matching, matrix)
                self.assertEqual(value_of(rotate_matching(matching), rotate_matrix(matrix)), value)
                self.assertEqual(value_of(turned(matching, 1), rotate_matrix(matrix)), value)

    def test_the_rotated_sum_has_the_old_value_at_the_rotated_matrix(self):
        for terms in sample_sums():
            if terms:
                for matrix in sample_matrices(2 * size_of_sum(terms)):
                    found = value_of_sum({turned(key, 1): terms[key] for key in terms}, rotate_matrix(matrix))
                    self.assertEqual(found, value_of_sum(terms, matrix))


class Witnesses(unittest.TestCase):
    def check(self, one, other):
        difference = added((expanded(one), 1), (expanded(other), -1))
        size = size_of_sum(one or other)
        t = sum(abs(coefficient) for coefficient in difference.values()) * 2 ** size + 1
        expected = tuple((t ** 2 ** (2 * size - p), 1) for p in range(1, 2 * size + 1))
        found = witness(one, other)
        assert_same(self, found, expected)
        values = [value_of_sum(terms, found) for terms in (one, other)]
        self.assertNotEqual(*values)

    def test_the_examples_of_the_interface(self):
        assert_same(self, witness({FLAT: 1}, {}), ((390625, 1), (625, 1), (25, 1), (5, 1)))

    def test_size_0(self):
        assert_same(self, witness({(): 1}, {}), ())
        assert_same(self, witness(others={(): 1}, terms={(): 2}), ())

    def test_single_diagrams_and_matchings(self):
        for size in range(4):
            for one, other in permutations(pairings_of_size(size), 2):
                self.check({one: 1}, {other: 1})
        for size in range(5):
            for diagram in diagrams_of_size(size):
                self.check({diagram: 1}, {})
                self.check({}, {diagram: -3})

    def test_sums(self):
        sums = [terms for terms in sample_sums() if len(terms) < 20]
        for one, other in list(combinations(sums, 2))[::3]:
            if (one or other) and (not one or not other or size_of_sum(one) == size_of_sum(other)):
                if expanded(one) != expanded(other):
                    self.check(turned_order(one), other)
                    self.check(other, one)

    def test_the_greatest_sums(self):
        whole = {matching: BIG - index for index, matching in enumerate(pairings_of_size(5))}
        self.check(whole, {})
        self.check({FLAT_5: 1}, turned_order(whole))
        self.check(scattered_sum(5, 60, 3, digits=20), scattered_sum(5, 60, 4, digits=20))
        self.check(whole, {**whole, FLAT_5: 17})

    def test_sums_that_differ_in_few_matrices_only(self):
        # Both have the same value wherever two of the columns are equal.
        self.check({CROSSED_5: 1}, {CROSSED_5: 2})
        self.check({SIX: 1, ((1, 2), (3, 4), (5, 6)): -1}, {((1, 6), (2, 5), (3, 4)): 1})


class Faults(unittest.TestCase):
    """The errors of all functions, in the order of the interface."""

    def test_value_of_checks_the_matching_before_the_matrix(self):
        for value, index in no_matchings():
            for matrix in ((), ((1, 0), (0, 1)), None, True, [1]):
                assert_raises_field(self, InvalidMatching, "index", index, value_of, value, matrix)

    def test_a_wrong_matrix(self):
        for matching in ((), SINGLE, CROSSED, SIX, CROSSED_6, CROSSED_30):
            for value, index in no_matrices(len(matching)):
                assert_raises_field(self, InvalidMatrix, "index", index, value_of, matching, value)
                if 0 < len(matching) <= 5:
                    assert_raises_field(self, InvalidMatrix, "index", index, value_of_sum, {matching: 2}, value)
            assert_raises_field(self, InvalidMatrix, "index", None, value_of, matrix=None, matching=matching)

    def test_a_matrix_of_another_size(self):
        for size in range(7):
            for columns in range(15):
                for matrix in (scattered_matrix(columns, 1), (None,) * columns):
                    if columns != 2 * size:
                        matching = pairings_of_size(size)[-1] if size < 6 else CROSSED_6
                        assert_raises_field(self, InvalidMatrix, "index", None, value_of, matching, matrix)
                        if size < 6:
                            assert_raises_field(self, InvalidMatrix, "index", None, value_of_sum, {matching: 1}, matrix)
        for columns in (58, 59, 61, 62):
            assert_raises_field(self, InvalidMatrix, "index", None, value_of, CROSSED_30, ((1, 2),) * columns)

    def test_value_of_sum_checks_the_sum_before_the_matrix(self):
        for value, key in no_sums():
            for matrix in ((), ((1, 0), (0, 1)), None, True):
                assert_raises_field(self, InvalidSum, "key", key, value_of_sum, value, matrix)

    def test_a_wrong_matrix_for_the_empty_sum(self):
        for size in range(6):
            for value, index in no_matrices(size):
                right = isinstance(value, tuple) and len(value) in range(0, 11, 2)
                if index is not None:
                    assert_raises_field(self, InvalidMatrix, "index", index, value_of_sum, {}, value)
                elif not right:
                    assert_raises_field(self, InvalidMatrix, "index", None, value_of_sum, {}, value)
        for columns in (1, 3, 5, 7, 9, 11, 12, 13, 14, 20, 60, 62):
            for matrix in (((1, 2),) * columns, (None,) * columns):
                assert_raises_field(self, InvalidMatrix, "index", None, value_of_sum, {}, matrix)
        assert_raises_field(self, InvalidMatrix, "index", 0, value_of_sum, {}, (None,) * 10)

    def test_rotate_matrix(self):
        for size in (1, 2, 6, 29, 30):
            for value, index in no_matrices(size):
                if index is not None or not isinstance(value, tuple):
                    assert_raises_field(self, InvalidMatrix, "index", index, rotate_matrix, value)
                    assert_raises_field(self, InvalidMatrix, "index", index, rotate_matrix, matrix=value)
        for columns in (1, 3, 5, 11, 59, 61, 62, 63, 64, 1000):
            for matrix in (((1, 2),) * columns, (None,) * columns):
                assert_raises_field(self, InvalidMatrix, "index", None, rotate_matrix, matrix)
        assert_raises_field(self, InvalidMatrix, "index", 59, rotate_matrix, ((1, 2),) * 59 + ((1, True),))

    def test_witness_checks_the_first_sum_before_the_second_one(self):
        for value, key in no_sums():
            for other in ({}, {SINGLE: 1}, {SIX: 1}):
                assert_raises_field(self, InvalidSum, "key", key, witness, value, other)
                assert_raises_field(self, InvalidSum, "key", key, witness, other, value)
            assert_raises_field(self, InvalidSum, "key", key, witness, value, {"": 1})
            assert_raises_field(self, InvalidSum, "key", "", witness, {"": 1}, value)
            assert_raises_field(self, InvalidSum, "key", key, witness, others={}, terms=value)

    def test_witness_of_different_sizes(self):
        matchings = [(), SINGLE, CROSSED, SIX, pairings_of_size(4)[-1], CROSSED_5]
        for (size, one), (other_size, other) in permutations(enumerate(matchings), 2):
            assert_raises_field(self, SizesDiffer, "sizes", (size, other_size), witness, {one: 1}, {other: 1})
        # Both sums vanish when they are expanded, and have different sizes all the same.
        nothing = {FLAT: 1, NESTED: 1, CROSSED: -1}
        more = added((expanded({SIX: 1}), -1), ({SIX: 1}, 1))
        assert_raises_field(self, SizesDiffer, "sizes", (2, 3), witness, nothing, more)

    def test_witness_of_equivalent_sums(self):
        for terms in sample_sums():
            size = size_of_sum(terms) if terms else 0
            assert_raises_field(self, Equivalent, "size", size, witness, terms, turned_order(terms))
            found = expanded(terms)
            assert_raises_field(self, Equivalent, "size", size, witness, terms, found)
            assert_raises_field(self, Equivalent, "size", size, witness, terms=found, others=terms)
            if terms:
                nothing = added((terms, 1), (found, -1))
                if nothing:
                    assert_raises_field(self, Equivalent, "size", size, witness, nothing, {})
                    assert_raises_field(self, Equivalent, "size", size, witness, {}, nothing)
        assert_raises_field(self, Equivalent, "size", 0, witness, {}, {})
        assert_raises_field(self, Equivalent, "size", 0, witness, {(): 3}, {(): 3})
        assert_raises_field(self, Equivalent, "size", 5, witness, {CROSSED_5: 1}, {CROSSED_5: 1})

    def test_arguments_are_not_modified(self):
        for value in ([1], {"": [1]}, {CROSSED: [1]}, ([1, 2], [3, 4]), ((1, [2]), (1, 2)), {CROSSED: 0}):
            before = copy.deepcopy(value)
            self.assertRaises(InvalidMatching, value_of, value, ())
            self.assertRaises(InvalidMatrix, value_of, SINGLE, value)
            self.assertRaises(InvalidMatrix, value_of_sum, {}, value)
            self.assertRaises(InvalidMatrix, rotate_matrix, value)
            self.assertRaises(InvalidSum, value_of_sum, value, ())
            self.assertRaises(InvalidSum, witness, value, {})
            self.assertRaises(InvalidSum, witness, {}, value)
            self.assertEqual(repr(value), repr(before))
        for terms in sample_sums():
            if terms and expanded(terms):
                order = turned_order(terms)
                before = repr(order)
                value_of_sum(order, scattered_matrix(2 * size_of_sum(terms), 1))
                witness(order, {})
                witness({}, order)
                self.assertEqual(repr(order), before)

    def test_no_integers_in_columns(self):
        for value in no_text():
            for column in ((value, 1), (1, value)):
                if value.__class__ is not int:
                    assert_raises_field(self, InvalidMatrix, "index", 1, value_of, SINGLE, ((1, 2), column))
                    assert_raises_field(self, InvalidMatrix, "index", 0, value_of_sum, {}, (column, column))


if __name__ == "__main__":
    unittest.main()
