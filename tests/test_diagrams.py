import copy
import unittest
from itertools import product

from chordturn.diagrams import (
    depths, diagram_of, is_diagram, joined_to, reflect, rotate, short_chords, validate_diagram, word_of_diagram,
)
from chordturn.errors import InvalidDiagram, InvalidPoint, InvalidSteps, InvalidWord
from tests.support import (
    CATALAN, Plain, assert_raises_field, assert_same, chords_cross, chords_of, diagrams_of_size, joined_by_definition,
    large_diagrams, mirrored, no_integers, no_points, no_text, pairings_of_size, sample_diagrams, sample_words,
    small_diagrams, turned,
)
from tests.wrong import FLAT_30, FLAT_31, NESTED_30, NESTED_31, WRONG_TUPLES, first_wrong_chord, no_diagrams


class Validation(unittest.TestCase):
    def check(self, value, expected):
        if expected == "valid":
            self.assertIsNone(validate_diagram(value))
            self.assertIs(is_diagram(value), True)
        else:
            assert_raises_field(self, InvalidDiagram, "index", expected, validate_diagram, value)
            self.assertIs(is_diagram(value), False)

    def test_the_examples_of_the_interface(self):
        self.check(((1, 3), (2, 4)), 1)
        self.check((), "valid")

    def test_all_diagrams_of_small_sizes(self):
        for size, count in enumerate(CATALAN):
            self.assertEqual(len(diagrams_of_size(size)), count)
            for diagram in diagrams_of_size(size):
                self.check(diagram, "valid")

    def test_large_diagrams(self):
        for diagram in large_diagrams():
            self.check(diagram, "valid")
        self.check(NESTED_30, "valid")
        self.check(FLAT_30, "valid")

    def test_one_more_than_size_30(self):
        self.check(NESTED_31, None)
        self.check(FLAT_31, None)

    def test_all_tuples_of_one_or_two_pairs_of_small_integers(self):
        for size in (1, 2):
            for value in product(list(product(range(-1, 6), repeat=2)), repeat=size):
                self.check(value, first_wrong_chord(value))

    def test_all_tuples_of_three_ascending_pairs(self):
        pairs = [(i, j) for i, j in product(range(0, 8), repeat=2) if i < j]
        for value in product(pairs, repeat=3):
            self.check(value, first_wrong_chord(value))

    def test_all_pairings(self):
        for size in range(6):
            valid = 0
            for pairing in pairings_of_size(size):
                expected = first_wrong_chord(pairing)
                self.check(pairing, expected)
                valid += expected == "valid"
            self.assertEqual(valid, CATALAN[size])

    def test_the_item_that_crosses_an_earlier_one_first(self):
        for size in range(6):
            for pairing in pairings_of_size(size):
                crossing = [
                    index for index in range(size)
                    if any(chords_cross(pairing[index], other) for other in pairing[:index])
                ]
                self.check(pairing, crossing[0] if crossing else "valid")

    def test_every_diagram_with_one_chord_changed(self):
        for diagram in small_diagrams():
            points = 2 * len(diagram)
            for index, (low, high) in enumerate(diagram):
                for chord in [(low, high + 1), (low + 1, high), (low - 1, high), (high, low), (low, points + 1)]:
                    value = diagram[:index] + (chord,) + diagram[index + 1:]
                    self.check(value, first_wrong_chord(value))

    def test_every_diagram_with_one_chord_less_or_more_or_moved(self):
        for diagram in small_diagrams():
            for index, chord in enumerate(diagram):
                rest = diagram[:index] + diagram[index + 1:]
                for value in (rest, rest + (chord,), (chord,) + rest, diagram + (chord,)):
                    self.check(value, first_wrong_chord(value))

    def test_listed_tuples(self):
        for value, index in WRONG_TUPLES:
            self.check(value, index)

    def test_values_of_every_kind(self):
        for value, index in no_diagrams():
            self.check(value, index)

    def test_the_parameters_may_be_passed_by_name(self):
        self.assertIsNone(validate_diagram(diagram=((1, 2),)))
        self.assertIs(is_diagram(value=((1, 2),)), True)
        assert_raises_field(self, InvalidDiagram, "index", 0, validate_diagram, diagram=((1, 3),))


class Faults(unittest.TestCase):
    """The errors of all functions but is_diagram, which has none."""

    def test_a_wrong_diagram(self):
        for function in (word_of_diagram, depths, short_chords, rotate, reflect):
            for value, index in no_diagrams():
                assert_raises_field(self, InvalidDiagram, "index", index, function, value)
                assert_raises_field(self, InvalidDiagram, "index", index, function, diagram=value)

    def test_a_wrong_word(self):
        listed = [("D", 0), ("U", 1), ("UDD", 2), ("UUD", 3), ("ud", 0), ("UDx", 2), ("UD" * 30 + "U", None),
                  ("U" * 60, 60), ("UD" * 31, None)]
        for value, position in listed + [(value, None) for value in no_text()]:
            assert_raises_field(self, InvalidWord, "position", position, diagram_of, value)
            assert_raises_field(self, InvalidWord, "position", position, diagram_of, word=value)

    def test_joined_to_checks_the_diagram_before_the_point(self):
        for value, index in no_diagrams():
            for point in (1, 0, True, None):
                assert_raises_field(self, InvalidDiagram, "index", index, joined_to, value, point)

    def test_joined_to_refuses_what_is_not_a_point(self):
        for diagram in [(), ((1, 2),), ((1, 6), (2, 3), (4, 5)), NESTED_30, FLAT_30]:
            for point in no_points(len(diagram)):
                assert_raises_field(self, InvalidPoint, "point", point, joined_to, diagram, point)
        assert_raises_field(self, InvalidPoint, "point", 1, joined_to, (), 1)
        assert_raises_field(self, InvalidPoint, "point", 3, joined_to, diagram=((1, 2),), point=3)

    def test_rotate_checks_the_diagram_before_the_steps(self):
        for value, index in no_diagrams():
            for steps in (1, True, None, "1"):
                assert_raises_field(self, InvalidDiagram, "index", index, rotate, value, steps=steps)

    def test_rotate_refuses_steps_that_are_no_integers(self):
        for diagram in [(), ((1, 2),), ((1, 6), (2, 3), (4, 5)), NESTED_30]:
            for steps in no_integers():
                assert_raises_field(self, InvalidSteps, "steps", steps, rotate, diagram, steps=steps)

    def test_the_field_holds_the_argument_itself(self):
        for value in ([1], (1, 2), "1", {}, Plain()):
            with self.assertRaises(InvalidPoint) as caught:
                joined_to(((1, 2),), value)
            self.assertIs(caught.exception.point, value)
            with self.assertRaises(InvalidSteps) as caught:
                rotate((), steps=value)
            self.assertIs(caught.exception.steps, value)

    def test_steps_are_keyword_only(self):
        self.assertRaises(TypeError, rotate, ((1, 2),), 1)

    def test_wrong_arguments_are_not_modified(self):
        for value in ([[1, 2]], [(1, 2)], {1: [2]}, ([1, 2],), ((1, 2), [3, 4]), ((1, [2]),)):
            before = copy.deepcopy(value)
            self.assertIs(is_diagram(value), False)
            for function in (validate_diagram, word_of_diagram, depths, short_chords, rotate, reflect):
                self.assertRaises(InvalidDiagram, function, value)
            self.assertRaises(InvalidDiagram, joined_to, value, 1)
            self.assertRaises(InvalidPoint, joined_to, ((1, 2),), value)
            self.assertRaises(InvalidSteps, rotate, ((1, 2),), steps=value)
            self.assertRaises(InvalidWord, diagram_of, value)
            self.assertEqual(value, before)


class WordsAndDiagrams(unittest.TestCase):
    def test_the_examples_of_the_interface(self):
        assert_same(self, diagram_of("UUDUDD"), ((1, 6), (2, 3), (4, 5)))
        assert_same(self, word_of_diagram(((1, 6), (2, 3), (4, 5))), "UUDUDD")
        assert_same(self, joined_to(((1, 6), (2, 3), (4, 5)), 4), 5)

    def test_sizes_0_1_and_30(self):
        assert_same(self, diagram_of(""), ())
        assert_same(self, word_of_diagram(()), "")
        assert_same(self, diagram_of(word="UD"), ((1, 2),))
        assert_same(self, word_of_diagram(diagram=((1, 2),)), "UD")
        assert_same(self, diagram_of("U" * 30 + "D" * 30), NESTED_30)
        assert_same(self, diagram_of("UD" * 30), FLAT_30)
        assert_same(self, word_of_diagram(NESTED_30), "U" * 30 + "D" * 30)
        assert_same(self, word_of_diagram(FLAT_30), "UD" * 30)
        self.assertEqual(joined_to(NESTED_30, 60), 1)
        self.assertEqual(joined_to(FLAT_30, 60), 59)
        self.assertEqual(joined_to(diagram=((1, 2),), point=2), 1)

    def test_the_definitions(self):
        for word in sample_words():
            diagram = chords_of(word)
            assert_same(self, diagram_of(word), diagram)
            assert_same(self, word_of_diagram(diagram), word)
            found = tuple(joined_to(diagram, point) for point in range(1, len(word) + 1))
            assert_same(self, found, joined_by_definition(word))

    def test_each_restores_what_the_other_one_was_given(self):
        for word in sample_words():
            self.assertEqual(word_of_diagram(diagram_of(word)), word)
        for diagram in sample_diagrams():
            self.assertEqual(diagram_of(word_of_diagram(diagram)), diagram)

    def test_every_chord_joins_an_odd_and_an_even_point(self):
        for diagram in sample_diagrams():
            for low, high in diagram:
                self.assertEqual((low + high) % 2, 1)
                self.assertEqual(joined_to(diagram, low), high)
                self.assertEqual(joined_to(diagram, high), low)


class DepthsAndShortChords(unittest.TestCase):
    def test_the_examples_of_the_interface(self):
        assert_same(self, depths(((1, 6), (2, 3), (4, 5))), (0, 1, 1))
        assert_same(self, short_chords(((1, 6), (2, 3), (4, 5))), ((1, 6), (2, 3), (4, 5)))

    def test_sizes_0_1_2_and_30(self):
        assert_same(self, depths(()), ())
        assert_same(self, short_chords(()), ())
        assert_same(self, depths(diagram=((1, 2),)), (0,))
        assert_same(self, short_chords(diagram=((1, 2),)), ((1, 2),))
        assert_same(self, depths(((1, 4), (2, 3))), (0, 1))
        assert_same(self, short_chords(((1, 4), (2, 3))), ((1, 4), (2, 3)))
        assert_same(self, short_chords(((1, 2), (3, 4))), ((1, 2), (3, 4)))
        assert_same(self, depths(NESTED_30), tuple(range(30)))
        assert_same(self, short_chords(NESTED_30), ((1, 60), (30, 31)))
        assert_same(self, depths(FLAT_30), (0,) * 30)
        assert_same(self, short_chords(FLAT_30), FLAT_30)

    def test_a_chord_from_1_that_is_not_short(self):
        assert_same(self, short_chords(((1, 4), (2, 3), (5, 6))), ((2, 3), (5, 6)))
        assert_same(self, short_chords(((1, 2), (3, 6), (4, 5))), ((1, 2), (4, 5)))

    def test_the_definition_of_the_depth(self):
        for diagram in sample_diagrams():
            expected = tuple(sum(i < k and l < j for i, j in diagram) for k, l in diagram)
            assert_same(self, depths(diagram), expected)

    def test_short_chords_join_neighbours_on_the_circle(self):
        for diagram in sample_diagrams():
            points = list(range(1, 2 * len(diagram) + 1))
            neighbours = [{p, q} for p, q in zip(points, points[1:] + points[:1])]
            expected = tuple(chord for chord in diagram if set(chord) in neighbours)
            assert_same(self, short_chords(diagram), expected)
            self.assertGreaterEqual(len(expected), min(len(diagram), 2))


class RotationAndReflection(unittest.TestCase):
    def test_the_examples_of_the_interface(self):
        assert_same(self, rotate(((1, 6), (2, 3), (4, 5))), ((1, 2), (3, 4), (5, 6)))
        assert_same(self, reflect(((1, 4), (2, 3), (5, 6))), ((1, 2), (3, 6), (4, 5)))

    def test_the_empty_diagram_stays_empty(self):
        assert_same(self, rotate(()), ())
        for steps in (0, 1, -1, 2, 10 ** 999, -(10 ** 999)):
            assert_same(self, rotate((), steps=steps), ())
        assert_same(self, reflect(()), ())

    def test_size_1(self):
        for steps in range(-5, 6):
            assert_same(self, rotate(((1, 2),), steps=steps), ((1, 2),))
        assert_same(self, reflect(((1, 2),)), ((1, 2),))

    def test_the_definition_for_small_sizes(self):
        for diagram in small_diagrams():
            assert_same(self, rotate(diagram), turned(diagram, 1))
            assert_same(self, reflect(diagram), mirrored(diagram))
            for steps in range(-2 * len(diagram) - 1, 2 * len(diagram) + 2):
                assert_same(self, rotate(diagram, steps=steps), turned(diagram, steps))

    def test_the_definition_for_large_sizes(self):
        for diagram in large_diagrams():
            assert_same(self, rotate(diagram), turned(diagram, 1))
            assert_same(self, reflect(diagram), mirrored(diagram))
            for steps in (-61, -60, -59, -31, -1, 0, 1, 2, 29, 30, 58, 59, 60, 61):
                assert_same(self, rotate(diagram, steps=steps), turned(diagram, steps))

    def test_steps_of_many_digits(self):
        for diagram in [((1, 4), (2, 3)), ((1, 2), (3, 6), (4, 5)), *large_diagrams()[:5], *large_diagrams()[-3:]]:
            count = 2 * len(diagram)
            for steps in (10 ** 999, 10 ** 1000 - 1, -(10 ** 999), 1 - 10 ** 1000, 7 * 10 ** 998 + 3, 10 ** 20 + 1):
                assert_same(self, rotate(diagram, steps=steps), turned(diagram, steps % count))
            assert_same(self, rotate(diagram, steps=count * 10 ** 900), diagram)
            assert_same(self, rotate(diagram, steps=-count * 10 ** 900 + 1), rotate(diagram))

    def test_steps_of_0_and_of_the_number_of_points(self):
        for diagram in sample_diagrams():
            for steps in (0, 2 * len(diagram), -2 * len(diagram), 4 * len(diagram)):
                assert_same(self, rotate(diagram, steps=steps), diagram)

    def test_one_step_by_hand(self):
        assert_same(self, rotate(((1, 2), (3, 4), (5, 6)), steps=1), ((1, 6), (2, 3), (4, 5)))
        assert_same(self, rotate(((1, 4), (2, 3), (5, 6))), ((1, 2), (3, 6), (4, 5)))
        assert_same(self, rotate(((1, 4), (2, 3), (5, 6)), steps=-1), ((1, 6), (2, 5), (3, 4)))
        assert_same(self, rotate(diagram=((1, 4), (2, 3), (5, 6)), steps=2), ((1, 6), (2, 5), (3, 4)))
        assert_same(self, reflect(diagram=((1, 2), (3, 6), (4, 5))), ((1, 4), (2, 3), (5, 6)))

    def test_rotations_follow_one_another(self):
        for diagram in small_diagrams():
            for first, second in product(range(-4, 5), repeat=2):
                found = rotate(rotate(diagram, steps=first), steps=second)
                assert_same(self, found, rotate(diagram, steps=first + second))

    def test_inverse_moves_lead_back(self):
        for diagram in sample_diagrams():
            assert_same(self, reflect(reflect(diagram)), diagram)
            for steps in (1, 2, 7, -1, -3, 10 ** 500):
                assert_same(self, rotate(rotate(diagram, steps=steps), steps=-steps), diagram)
                found = reflect(rotate(reflect(diagram), steps=steps))
                assert_same(self, found, rotate(diagram, steps=-steps))

    def test_moves_one_after_another_renumber_every_point(self):
        moves = [("turn", 1), ("turn", -1), ("mirror", 0), ("turn", 3), ("mirror", 0), ("turn", -7), ("turn", 10 ** 30)]
        for diagram in sample_diagrams():
            if not diagram:
                continue
            count = 2 * len(diagram)
            number = {point: point for point in range(1, count + 1)}
            found = diagram
            for kind, steps in moves:
                if kind == "turn":
                    found = rotate(found, steps=steps)
                    number = {point: (now - steps) % count or count for point, now in number.items()}
                else:
                    found = reflect(found)
                    number = {point: count + 1 - now for point, now in number.items()}
                expected = tuple(sorted(tuple(sorted((number[i], number[j]))) for i, j in diagram))
                assert_same(self, found, expected)
                self.assertIs(is_diagram(found), True)

    def test_rotating_by_1_moves_the_first_chord_of_the_word(self):
        for word in sample_words():
            if word:
                closer = joined_by_definition(word)[0]
                expected = word[1:closer - 1] + "U" + word[closer:] + "D"
                found = word_of_diagram(rotate(diagram_of(word)))
                self.assertEqual(found, expected)
                self.assertEqual(word_of_diagram(rotate(diagram_of(found), steps=-1)), word)

    def test_the_moves_permute_the_diagrams_of_a_size(self):
        for size in range(len(CATALAN)):
            diagrams = list(diagrams_of_size(size))
            self.assertEqual(sorted(rotate(diagram) for diagram in diagrams), diagrams)
            self.assertEqual(sorted(reflect(diagram) for diagram in diagrams), diagrams)
            for steps in (-3, 2, 5):
                self.assertEqual(sorted(rotate(diagram, steps=steps) for diagram in diagrams), diagrams)

    def test_the_moves_keep_the_number_of_short_chords(self):
        for diagram in sample_diagrams():
            self.assertEqual(len(short_chords(rotate(diagram))), len(short_chords(diagram)))
            self.assertEqual(len(short_chords(reflect(diagram))), len(short_chords(diagram)))


if __name__ == "__main__":
    unittest.main()
