import copy
import unittest
from itertools import product

from chordturn.diagrams import is_diagram, reflect, rotate
from chordturn.errors import InvalidCrossing, InvalidMatching, InvalidSize, InvalidSteps
from chordturn.matchings import (
    crossings, is_matching, matching_count, reflect_matching, rotate_matching, uncross, validate_matching,
)
from tests.support import (
    CATALAN, Plain, Refusing, assert_raises_field, assert_same, crossings_by_definition, large_matchings, mirrored,
    no_integers, no_text, no_tuples, pairings_of_size, sample_diagrams, small_matchings, turned,
    uncrossed_by_definition,
)
from tests.wrong import (
    CROSSED_30, CROSSED_31, FLAT_30, FLAT_31, NESTED_30, NESTED_31, first_wrong_chord, no_matchings,
)

COUNTS = (1, 1, 3, 15, 105, 945)


def no_crossings():
    """Values that are no crossings of the matching ((1, 3), (2, 4), (5, 7), (6, 8))."""
    near = [
        (), (1,), (1, 2, 3), (1, 2, 3, 4, 5), (1, 3, 2, 4), (2, 1, 4, 3), (2, 1, 3, 4), (4, 3, 2, 1), (1, 2, 4, 3),
        (1, 2, 5, 6), (1, 2, 7, 8), (5, 6, 7, 9), (1, 2, 3, 5), (0, 1, 2, 3), (-1, 2, 3, 4), (1, 1, 1, 1),
        ((1, 3), (2, 4)), ((1, 2, 3, 4),), ((1, 2), (3, 4)), ("1", "2", "3", "4"), ("1234",), "1234", b"1234",
        (1, 2, 3, 10 ** 999), (True, 2, 3, 4), (1, 2, 3, None), (1, 2, 3, "4"), (1, 2, 3, [4]), (1, 2, 3, (4,)),
        (1, 2, (3, 4)), (1, 2, 3, Refusing()), (Refusing(), 2, 3, 4), (1, 2, 3, Plain()), (1, 2, 3, {}),
        [1, 2, 3, 4], {1: 2, 3: 4}, {1, 2, 3, 4}, range(1, 5), iter((1, 2, 3, 4)), (None,) * 4, (1, 2, 3, 4) * 2,
    ]
    return near + no_tuples() + [value for value in no_text() if isinstance(value, tuple)]


class Validation(unittest.TestCase):
    def check(self, value, expected):
        if expected == "valid":
            self.assertIsNone(validate_matching(value))
            self.assertIs(is_matching(value), True)
        else:
            assert_raises_field(self, InvalidMatching, "index", expected, validate_matching, value)
            self.assertIs(is_matching(value), False)

    def test_the_examples_of_the_interface(self):
        self.check(((1, 2), (2, 3)), 1)
        self.check(((1, 3), (2, 4)), "valid")

    def test_all_matchings_of_small_sizes(self):
        for size, count in enumerate(COUNTS):
            self.assertEqual(len(pairings_of_size(size)), count)
            for matching in pairings_of_size(size):
                self.check(matching, "valid")

    def test_large_matchings_and_diagrams(self):
        for matching in large_matchings() + sample_diagrams() + [CROSSED_30, FLAT_30, NESTED_30]:
            self.check(matching, "valid")

    def test_one_more_than_size_30(self):
        for value in (CROSSED_31, FLAT_31, NESTED_31):
            self.check(value, None)

    def test_all_tuples_of_one_or_two_pairs_of_small_integers(self):
        for size in (1, 2):
            for value in product(list(product(range(-1, 6), repeat=2)), repeat=size):
                self.check(value, first_wrong_chord(value, may_cross=True))

    def test_all_tuples_of_three_ascending_pairs(self):
        pairs = [(i, j) for i, j in product(range(0, 8), repeat=2) if i < j]
        valid = 0
        for value in product(pairs, repeat=3):
            expected = first_wrong_chord(value, may_cross=True)
            self.check(value, expected)
            valid += expected == "valid"
        self.assertEqual(valid, 15)

    def test_every_matching_with_one_chord_changed_moved_or_left_out(self):
        for matching in small_matchings(3) + [CROSSED_30]:
            points = 2 * len(matching)
            for index, (low, high) in enumerate(matching):
                rest = matching[:index] + matching[index + 1:]
                values = [rest, rest + ((low, high),), ((low, high),) + rest, matching + ((low, high),)]
                for chord in [(low, high + 1), (low + 1, high), (low - 1, high), (high, low), (low, points + 1)]:
                    values.append(matching[:index] + (chord,) + matching[index + 1:])
                for value in values:
                    expected = first_wrong_chord(value, may_cross=True) if len(value) <= 30 else None
                    self.check(value, expected)

    def test_values_of_every_kind(self):
        for value, index in no_matchings():
            self.check(value, index)

    def test_a_matching_is_a_diagram_exactly_if_nothing_crosses(self):
        for matching in small_matchings(5) + large_matchings():
            self.assertIs(is_diagram(matching), crossings(matching) == ())
        for size in range(6):
            flat = [matching for matching in pairings_of_size(size) if crossings(matching) == ()]
            self.assertEqual(len(flat), CATALAN[size])

    def test_the_parameters_may_be_passed_by_name(self):
        self.assertIsNone(validate_matching(matching=((1, 3), (2, 4))))
        self.assertIs(is_matching(value=((1, 3), (2, 4))), True)
        assert_raises_field(self, InvalidMatching, "index", 0, validate_matching, matching=((1, 3),))


class Crossings(unittest.TestCase):
    def test_the_examples_of_the_interface(self):
        assert_same(self, crossings(((1, 4), (2, 5), (3, 6))), ((1, 2, 4, 5), (1, 3, 4, 6), (2, 3, 5, 6)))
        assert_same(self, uncross(((1, 3), (2, 4)), (1, 2, 3, 4)), (((1, 2), (3, 4)), ((1, 4), (2, 3))))

    def test_the_definition(self):
        for matching in small_matchings(5):
            found = crossings(matching)
            assert_same(self, found, crossings_by_definition(matching))
            self.assertEqual(list(found), sorted(set(found)))
        for matching in large_matchings()[:12]:
            assert_same(self, crossings(matching), crossings_by_definition(matching))

    def test_sizes_0_1_and_30(self):
        assert_same(self, crossings(()), ())
        assert_same(self, crossings(matching=((1, 2),)), ())
        assert_same(self, crossings(FLAT_30), ())
        assert_same(self, crossings(NESTED_30), ())
        expected = tuple((i, j, i + 30, j + 30) for i in range(1, 31) for j in range(i + 1, 31))
        assert_same(self, crossings(CROSSED_30), expected)

    def test_uncrossing_by_definition_makes_fewer_crossings(self):
        for matching in small_matchings(5):
            found = crossings(matching)
            for crossing in found:
                pair = uncross(matching, crossing)
                assert_same(self, pair, uncrossed_by_definition(matching, crossing))
                for made in pair:
                    self.assertIs(is_matching(made), True)
                    self.assertLess(len(crossings(made)), len(found))

    def test_uncrossing_large_matchings(self):
        for matching in large_matchings():
            found = crossings(matching)
            for crossing in found[:3] + found[-3:] + found[len(found) // 2:][:2]:
                pair = uncross(matching=matching, crossing=crossing)
                assert_same(self, pair, uncrossed_by_definition(matching, crossing))
                for made in pair:
                    self.assertLess(len(crossings(made)), len(found))

    def test_four_points_that_are_no_crossing(self):
        for matching in small_matchings(3):
            points = range(0, 2 * len(matching) + 2)
            found = crossings_by_definition(matching)
            for four in product(points, repeat=4):
                if four not in found:
                    assert_raises_field(self, InvalidCrossing, "crossing", four, uncross, matching, four)

    def test_the_crossings_of_a_rotated_matching_are_as_many(self):
        for matching in small_matchings(5) + large_matchings():
            self.assertEqual(len(crossings(rotate_matching(matching))), len(crossings(matching)))
            self.assertEqual(len(crossings(reflect_matching(matching))), len(crossings(matching)))


class Faults(unittest.TestCase):
    """The errors of all functions but is_matching, which has none."""

    def test_a_wrong_matching(self):
        for value, index in no_matchings():
            for function in (crossings, rotate_matching, reflect_matching):
                assert_raises_field(self, InvalidMatching, "index", index, function, value)
                assert_raises_field(self, InvalidMatching, "index", index, function, matching=value)

    def test_uncross_checks_the_matching_before_the_crossing(self):
        for value, index in no_matchings():
            for crossing in ((1, 2, 3, 4), (), True, None, [1, 2, 3, 4]):
                assert_raises_field(self, InvalidMatching, "index", index, uncross, value, crossing)

    def test_uncross_refuses_what_is_no_crossing(self):
        matching = ((1, 3), (2, 4), (5, 7), (6, 8))
        for crossing in no_crossings():
            assert_raises_field(self, InvalidCrossing, "crossing", crossing, uncross, matching, crossing)
            assert_raises_field(self, InvalidCrossing, "crossing", crossing, uncross, crossing=crossing, matching=())
            assert_raises_field(self, InvalidCrossing, "crossing", crossing, uncross, FLAT_30, crossing)
        assert_raises_field(self, InvalidCrossing, "crossing", (1, 2, 3, 4), uncross, (), (1, 2, 3, 4))
        assert_raises_field(self, InvalidCrossing, "crossing", (1, 2, 3, 4), uncross, ((1, 2), (3, 4)), (1, 2, 3, 4))

    def test_rotate_matching_checks_the_matching_before_the_steps(self):
        for value, index in no_matchings():
            for steps in (1, True, None, "1"):
                assert_raises_field(self, InvalidMatching, "index", index, rotate_matching, value, steps=steps)

    def test_rotate_matching_refuses_steps_that_are_no_integers(self):
        for matching in [(), ((1, 2),), ((1, 3), (2, 4)), CROSSED_30]:
            for steps in no_integers():
                assert_raises_field(self, InvalidSteps, "steps", steps, rotate_matching, matching, steps=steps)
        self.assertRaises(TypeError, rotate_matching, ((1, 2),), 1)

    def test_sizes_that_are_not_counted(self):
        for value in no_integers() + [-1, -2, 31, 32, 60, 10 ** 999, -(10 ** 999)]:
            assert_raises_field(self, InvalidSize, "size", value, matching_count, value)
            assert_raises_field(self, InvalidSize, "size", value, matching_count, size=value)

    def test_the_fields_hold_the_arguments_themselves(self):
        for value in ([1], (1, 2), "1", {}, Plain(), (1, [2])):
            with self.assertRaises(InvalidCrossing) as caught:
                uncross(((1, 3), (2, 4)), value)
            self.assertIs(caught.exception.crossing, value)
            with self.assertRaises(InvalidSteps) as caught:
                rotate_matching((), steps=value)
            self.assertIs(caught.exception.steps, value)
            with self.assertRaises(InvalidSize) as caught:
                matching_count(value)
            self.assertIs(caught.exception.size, value)

    def test_wrong_arguments_are_not_modified(self):
        for value in ([[1, 2]], [(1, 3), (2, 4)], {1: [2]}, ([1, 2],), ((1, 3), [2, 4]), ((1, [2]),), [1, 2, 3, 4]):
            before = copy.deepcopy(value)
            self.assertIs(is_matching(value), False)
            for function in (validate_matching, crossings, rotate_matching, reflect_matching):
                self.assertRaises(InvalidMatching, function, value)
            self.assertRaises(InvalidMatching, uncross, value, (1, 2, 3, 4))
            self.assertRaises(InvalidCrossing, uncross, ((1, 3), (2, 4)), value)
            self.assertRaises(InvalidSteps, rotate_matching, ((1, 2),), steps=value)
            self.assertRaises(InvalidSize, matching_count, value)
            self.assertEqual(value, before)


class RotationAndReflection(unittest.TestCase):
    def test_the_examples_of_the_interface(self):
        assert_same(self, rotate_matching(((1, 3), (2, 5), (4, 6))), ((1, 4), (2, 6), (3, 5)))
        assert_same(self, reflect_matching(((1, 3), (2, 4), (5, 6))), ((1, 2), (3, 5), (4, 6)))

    def test_the_empty_matching_stays_empty(self):
        assert_same(self, rotate_matching(()), ())
        for steps in (0, 1, -1, 2, 10 ** 999, -(10 ** 999)):
            assert_same(self, rotate_matching((), steps=steps), ())
        assert_same(self, reflect_matching(()), ())

    def test_the_definition_for_small_sizes(self):
        for matching in small_matchings():
            assert_same(self, rotate_matching(matching), turned(matching, 1))
            assert_same(self, reflect_matching(matching=matching), mirrored(matching))
            for steps in range(-2 * len(matching) - 1, 2 * len(matching) + 2):
                assert_same(self, rotate_matching(matching=matching, steps=steps), turned(matching, steps))
        for matching in pairings_of_size(5):
            assert_same(self, rotate_matching(matching), turned(matching, 1))
            assert_same(self, rotate_matching(matching, steps=-3), turned(matching, -3))
            assert_same(self, reflect_matching(matching), mirrored(matching))

    def test_the_definition_for_large_sizes(self):
        for matching in large_matchings():
            assert_same(self, rotate_matching(matching), turned(matching, 1))
            assert_same(self, reflect_matching(matching), mirrored(matching))
            for steps in (-61, -60, -59, -31, -1, 0, 1, 2, 29, 30, 58, 59, 60, 61):
                assert_same(self, rotate_matching(matching, steps=steps), turned(matching, steps))

    def test_steps_of_many_digits(self):
        for matching in small_matchings(3)[1:] + large_matchings():
            count = 2 * len(matching)
            for steps in (10 ** 999, 10 ** 1000 - 1, -(10 ** 999), 1 - 10 ** 1000, 7 * 10 ** 39 + 3, 10 ** 20 + 1):
                assert_same(self, rotate_matching(matching, steps=steps), turned(matching, steps % count))
            assert_same(self, rotate_matching(matching, steps=count * 10 ** 900), matching)
            assert_same(self, rotate_matching(matching, steps=-count * 10 ** 900 + 1), rotate_matching(matching))

    def test_diagrams_turn_as_they_do_without_crossings(self):
        for diagram in sample_diagrams():
            assert_same(self, rotate_matching(diagram), rotate(diagram))
            assert_same(self, rotate_matching(diagram, steps=-5), rotate(diagram, steps=-5))
            assert_same(self, reflect_matching(diagram), reflect(diagram))

    def test_moves_follow_one_another_and_lead_back(self):
        for matching in small_matchings() + large_matchings():
            assert_same(self, reflect_matching(reflect_matching(matching)), matching)
            for steps in (1, -1, 2, 7, -10 ** 40):
                there = rotate_matching(matching, steps=steps)
                assert_same(self, rotate_matching(there, steps=-steps), matching)
                assert_same(self, rotate_matching(there, steps=3), rotate_matching(matching, steps=steps + 3))
                found = reflect_matching(rotate_matching(reflect_matching(matching), steps=steps))
                assert_same(self, found, rotate_matching(matching, steps=-steps))

    def test_turning_and_uncrossing(self):
        # Uncrossing joins the same points whether the matching is rotated before or behind it.
        for matching in small_matchings():
            for crossing in crossings(matching):
                count = 2 * len(matching)
                turned_crossing = tuple(sorted((point - 2) % count + 1 for point in crossing))
                found = uncross(rotate_matching(matching), turned_crossing)
                expected = [rotate_matching(made) for made in uncross(matching, crossing)]
                self.assertEqual(sorted(found), sorted(expected))


class Counting(unittest.TestCase):
    def test_the_examples_of_the_interface(self):
        assert_same(self, matching_count(3), 15)

    def test_all_sizes(self):
        for size, count in enumerate(COUNTS):
            assert_same(self, matching_count(size), count)
        count = 1
        for size in range(1, 31):
            count *= 2 * size - 1
            assert_same(self, matching_count(size=size), count)
        assert_same(self, matching_count(30), 29215606371473169285018060091249259296875)


if __name__ == "__main__":
    unittest.main()
