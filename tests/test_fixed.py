import copy
import unittest
from itertools import permutations
from math import comb, gcd

from chordturn.errors import InvalidDiagram, InvalidSize, InvalidSteps, TooLarge
from chordturn.fixed import (
    fixed_by_remainder, fixed_count, fixed_diagrams, full_orbit, is_fixed, orbit, orbit_counts, order_of,
    reflection_counts,
)
from chordturn.numbering import word_count
from chordturn.polynomials import cyclotomic, divide, q_catalan
from tests.support import (
    CATALAN, assert_raises_field, assert_same, chords_of, diagrams_of_size, large_diagrams, mirrored, no_integers,
    sample_diagrams, small_diagrams, turned, words_of_size,
)
from tests.wrong import FLAT_30, NESTED_30, no_diagrams, no_sizes

MANY_STEPS = (10 ** 39 + 7, -(10 ** 39) - 6, 10 ** 999, -(10 ** 999), 12 * 10 ** 38)


def steps_around(size):
    """All steps around the circle and beyond its ends, on both sides, and some of many digits."""
    return [*range(-2 * size - 2, 4 * size + 3), *MANY_STEPS]


def unchanged(size, steps):
    return tuple(diagram for diagram in diagrams_of_size(size) if turned(diagram, steps) == diagram)


class Orders(unittest.TestCase):
    def test_the_examples_of_the_interface(self):
        assert_same(self, order_of(3, 2), 3)

    def test_the_definition(self):
        for size in range(1, 31):
            for steps in steps_around(size):
                assert_same(self, order_of(size, steps), 2 * size // gcd(2 * size, steps))
                # So many rotations, and no fewer, are whole turns.
                whole = [times for times in range(1, 2 * size + 1) if times * steps % (2 * size) == 0]
                self.assertEqual(order_of(steps=steps, size=size), whole[0])

    def test_edges(self):
        for size in (1, 2, 30):
            for steps in (0, 2 * size, -2 * size, 2 * size * 10 ** 40):
                assert_same(self, order_of(size, steps), 1)
            assert_same(self, order_of(size, size), 2)
            assert_same(self, order_of(size, 1), 2 * size)


class FixedDiagrams(unittest.TestCase):
    def test_the_examples_of_the_interface(self):
        self.assertIs(is_fixed(((1, 2), (3, 4)), 2), True)
        assert_same(self, fixed_count(3, 2), 2)
        assert_same(self, fixed_by_remainder(3, 3), 3)
        assert_same(self, fixed_diagrams(3, 2), (((1, 2), (3, 4), (5, 6)), ((1, 6), (2, 3), (4, 5))))

    def test_is_fixed(self):
        for diagram in small_diagrams():
            for steps in steps_around(len(diagram))[:-5]:
                self.assertIs(is_fixed(diagram, steps), turned(diagram, steps) == diagram)
        for diagram in large_diagrams():
            for steps in (0, 1, -1, 2, 4, 6, 12, 15, 20, 30, -30, 59, 60, 61, 120):
                self.assertIs(is_fixed(steps=steps, diagram=diagram), turned(diagram, steps) == diagram)

    def test_is_fixed_for_steps_of_many_digits(self):
        for diagram in sample_diagrams():
            count = 2 * len(diagram)
            self.assertIs(is_fixed(diagram, count * 10 ** 40), True)
            self.assertIs(is_fixed(diagram, 0), True)
            for steps in MANY_STEPS:
                expected = count == 0 or turned(diagram, steps % count) == diagram
                self.assertIs(is_fixed(diagram, steps), expected)

    def test_all_diagrams_of_small_sizes(self):
        for size in range(len(CATALAN)):
            for steps in range(-2, 2 * size + 2):
                expected = unchanged(size, steps)
                assert_same(self, fixed_diagrams(size, steps), expected)
                assert_same(self, fixed_count(size, steps), len(expected))
                assert_same(self, fixed_by_remainder(size, steps), len(expected))

    def test_the_greatest_sizes_that_are_listed(self):
        for size in (7, 8):
            diagrams = sorted(chords_of(word) for word in words_of_size(size))
            assert_same(self, fixed_diagrams(size, 0), tuple(diagrams))
            assert_same(self, fixed_diagrams(size, -2 * size * 10 ** 40), tuple(diagrams))
            for steps in range(1, 2 * size):
                found = fixed_diagrams(steps=steps, size=size)
                if steps in (1, 2, 3, 4, 7, 8, 12):
                    assert_same(self, found, tuple(d for d in diagrams if turned(d, steps) == d))
                assert_same(self, fixed_count(size, steps), len(found))
                assert_same(self, fixed_by_remainder(size, steps), len(found))

    def test_the_order_of_the_diagrams_is_not_that_of_the_words(self):
        found = fixed_diagrams(4, 0)
        self.assertEqual(list(found), sorted(found))
        self.assertNotEqual(list(found), [chords_of(word) for word in sorted(words_of_size(4))])

    def test_size_0(self):
        for steps in (0, 1, -1, 5, *MANY_STEPS):
            assert_same(self, fixed_count(0, steps), 1)
            assert_same(self, fixed_by_remainder(0, steps), 1)
            assert_same(self, fixed_diagrams(0, steps), ((),))
            self.assertIs(is_fixed((), steps), True)


class Counts(unittest.TestCase):
    def by_formula(self, size, steps):
        """The number of 14.2, a line for each of its cases."""
        if size == 0:
            return 1
        m = 2 * size // gcd(2 * size, steps)
        big_n = 2 * size // m
        if m == 1:
            return word_count(size)
        if big_n % 2 == 0:
            return comb(big_n, big_n // 2)
        return comb(size, (size - 1) // 2) if m == 2 else 0

    def test_every_size_and_all_steps_around_the_circle(self):
        for size in range(31):
            for steps in range(max(2 * size, 1)):
                expected = self.by_formula(size, steps)
                assert_same(self, fixed_count(size, steps), expected)
                assert_same(self, fixed_by_remainder(size, steps), expected)

    def test_steps_of_either_sign_and_of_many_digits(self):
        for size in (0, 1, 2, 5, 6, 9, 15, 29, 30):
            for steps in steps_around(size):
                assert_same(self, fixed_count(steps=steps, size=size), self.by_formula(size, steps))
            for steps in (-1, -size, 2 * size, -2 * size, *MANY_STEPS):
                assert_same(self, fixed_by_remainder(steps=steps, size=size), self.by_formula(size, steps))

    def test_the_remainder_has_no_power_of_q(self):
        for size in range(1, 31):
            for order in range(1, 2 * size + 1):
                if 2 * size % order == 0:
                    _, remainder = divide(q_catalan(size), cyclotomic(order))
                    self.assertLessEqual(len(remainder), 1)
                    self.assertEqual(sum(remainder), fixed_count(size, 2 * size // order))

    def test_all_cases_by_hand(self):
        assert_same(self, fixed_count(30, 0), 3814986502092304)
        assert_same(self, fixed_count(30, 30), comb(30, 15))
        assert_same(self, fixed_count(29, 29), comb(29, 14))
        assert_same(self, fixed_count(30, 20), comb(20, 10))
        assert_same(self, fixed_count(30, 15), 0)
        assert_same(self, fixed_count(30, 1), 0)
        assert_same(self, fixed_count(1, 1), 1)
        assert_same(self, fixed_count(2, 1), 0)
        assert_same(self, fixed_count(30, 2), 2)


class Reflections(unittest.TestCase):
    def test_the_examples_of_the_interface(self):
        assert_same(self, reflection_counts(3), (3, 1))

    def test_small_sizes_by_definition(self):
        for size in range(8):
            diagrams = [chords_of(word) for word in words_of_size(size)]
            first = sum(mirrored(diagram) == diagram for diagram in diagrams)
            second = sum(turned(mirrored(diagram), 1) == diagram for diagram in diagrams) if size else 1
            assert_same(self, reflection_counts(size), (first, second))

    def test_all_sizes(self):
        for size in range(31):
            second = 0 if size % 2 == 0 else word_count((size - 1) // 2)
            assert_same(self, reflection_counts(size=size), (comb(size, size // 2), second if size else 1))
        assert_same(self, reflection_counts(0), (1, 1))
        assert_same(self, reflection_counts(1), (1, 1))
        assert_same(self, reflection_counts(30), (155117520, 0))


class Orbits(unittest.TestCase):
    def test_the_examples_of_the_interface(self):
        assert_same(self, orbit(((1, 2), (3, 4))), (((1, 2), (3, 4)), ((1, 4), (2, 3))))
        expected = (((1, 2), (3, 6), (4, 5)), ((1, 4), (2, 3), (5, 6)), ((1, 6), (2, 5), (3, 4)))
        assert_same(self, full_orbit(((1, 2), (3, 6), (4, 5))), expected)
        assert_same(self, orbit_counts(3), (2, 2))

    def test_the_definitions(self):
        for diagram in sample_diagrams():
            found = {turned(diagram, steps) for steps in range(2 * len(diagram) or 1)} if diagram else {()}
            both = found | {turned(mirrored(diagram), steps) for steps in range(2 * len(diagram))} if diagram else {()}
            assert_same(self, orbit(diagram), tuple(sorted(found)))
            assert_same(self, full_orbit(diagram), tuple(sorted(both)))

    def test_sizes_0_1_and_30(self):
        assert_same(self, orbit(()), ((),))
        assert_same(self, full_orbit(()), ((),))
        assert_same(self, orbit(diagram=((1, 2),)), (((1, 2),),))
        assert_same(self, full_orbit(diagram=((1, 2),)), (((1, 2),),))
        self.assertEqual(len(orbit(FLAT_30)), 2)
        self.assertEqual(len(orbit(NESTED_30)), 30)
        self.assertEqual(len(full_orbit(NESTED_30)), 30)

    def test_the_size_of_an_orbit_divides_the_number_of_points(self):
        for diagram in sample_diagrams():
            if diagram:
                found = orbit(diagram)
                self.assertEqual(2 * len(diagram) % len(found), 0)
                self.assertIs(is_fixed(diagram, len(found)), True)
                self.assertIn(len(full_orbit(diagram)), (len(found), 2 * len(found)))

    def test_orbits_divide_the_diagrams_of_a_size(self):
        for size in range(len(CATALAN)):
            for function, place in ((orbit, 0), (full_orbit, 1)):
                found = {function(diagram) for diagram in diagrams_of_size(size)}
                self.assertEqual(sorted(d for part in found for d in part), list(diagrams_of_size(size)))
                self.assertEqual(orbit_counts(size)[place], len(found))

    def test_numbers_of_orbits(self):
        # The numbers of necklaces of chords, and of those that may also be turned over.
        first = (1, 1, 1, 2, 3, 6, 14, 34, 95, 280, 854)
        second = (1, 1, 1, 2, 3, 6, 12, 27, 65, 175, 490)
        for size, pair in enumerate(zip(first, second)):
            assert_same(self, orbit_counts(size), pair)

    def test_numbers_of_orbits_of_all_sizes(self):
        for size in range(1, 31):
            total = sum(fixed_count(size, steps) for steps in range(2 * size))
            more = size * sum(reflection_counts(size))
            self.assertEqual((total % (2 * size), (total + more) % (4 * size)), (0, 0))
            expected = (total // (2 * size), (total + more) // (4 * size))
            assert_same(self, orbit_counts(size=size), expected)


class Faults(unittest.TestCase):
    """The errors of all functions, in the order of the interface."""

    def test_order_of_checks_the_size_before_the_steps(self):
        for value in no_sizes(1, 30):
            for steps in (0, 1, None, True):
                assert_raises_field(self, InvalidSize, "size", value, order_of, value, steps)
        assert_raises_field(self, InvalidSize, "size", 0, order_of, steps=1, size=0)
        for steps in no_integers():
            for size in (1, 3, 30):
                assert_raises_field(self, InvalidSteps, "steps", steps, order_of, size, steps)

    def test_is_fixed_checks_the_diagram_before_the_steps(self):
        for value, index in no_diagrams():
            for steps in (0, 1, None, True):
                assert_raises_field(self, InvalidDiagram, "index", index, is_fixed, value, steps)
        for steps in no_integers():
            for diagram in ((), ((1, 2),), NESTED_30):
                assert_raises_field(self, InvalidSteps, "steps", steps, is_fixed, diagram, steps)
                assert_raises_field(self, InvalidSteps, "steps", steps, is_fixed, steps=steps, diagram=diagram)

    def test_sizes_before_steps_before_the_limit(self):
        for function in (fixed_count, fixed_by_remainder, fixed_diagrams):
            for value in no_sizes(0, 30):
                for steps in (0, 1, None, True):
                    assert_raises_field(self, InvalidSize, "size", value, function, value, steps)
                assert_raises_field(self, InvalidSize, "size", value, function, steps=0, size=value)
            for steps in no_integers():
                for size in (0, 1, 8, 9, 30):
                    assert_raises_field(self, InvalidSteps, "steps", steps, function, size, steps)
        for size in range(9, 31):
            for steps in (0, 1, -5, 10 ** 40):
                assert_raises_field(self, TooLarge, "limit", 8, fixed_diagrams, size, steps)
        assert_raises_field(self, TooLarge, "limit", 8, fixed_diagrams, steps=1, size=9)

    def test_functions_of_a_size(self):
        for function in (reflection_counts, orbit_counts):
            for value in no_sizes(0, 30):
                assert_raises_field(self, InvalidSize, "size", value, function, value)
                assert_raises_field(self, InvalidSize, "size", value, function, size=value)

    def test_orbits_of_what_is_no_diagram(self):
        for function in (orbit, full_orbit):
            for value, index in no_diagrams():
                assert_raises_field(self, InvalidDiagram, "index", index, function, value)
                assert_raises_field(self, InvalidDiagram, "index", index, function, diagram=value)

    def test_wrong_arguments_are_not_modified(self):
        for one, other in permutations(([1], {0: [1]}, ([1, 2],), ((1, [2]),), [[1, 2]]), 2):
            before = copy.deepcopy((one, other))
            for function in (order_of, fixed_count, fixed_by_remainder, fixed_diagrams):
                self.assertRaises(InvalidSize, function, one, other)
                self.assertRaises(InvalidSteps, function, 2, other)
            self.assertRaises(InvalidDiagram, is_fixed, one, other)
            self.assertRaises(InvalidSteps, is_fixed, (), other)
            for function in (orbit, full_orbit):
                self.assertRaises(InvalidDiagram, function, one)
            for function in (reflection_counts, orbit_counts):
                self.assertRaises(InvalidSize, function, one)
            self.assertEqual((one, other), before)


if __name__ == "__main__":
    unittest.main()
