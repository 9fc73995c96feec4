import copy
import unittest
from itertools import product

from chordturn import words
from chordturn.errors import EmptyWord, InvalidPoint, InvalidSize, InvalidWord
from chordturn.words import (
    first_parts, from_parts, heights, is_word, partner, partners, reversed_word, size_of, touch_points, validate_word,
)
from tests.support import (
    CATALAN, assert_raises_field, first_fault, joined_by_definition, large_words, no_points, no_text, sample_words,
    small_words, words_of_size,
)

# Strings that are not words, with the position that 3.8 names.
NO_WORDS = [
    ("D", 0), ("U", 1), ("UDD", 2), ("UUD", 3), ("UU", 2), ("DU", 0), ("UDDU", 2), ("UDUDD", 4), ("UUDUD", 5),
    ("u", 0), ("d", 0), ("Ud", 1), ("uD", 0), ("UD ", 2), (" UD", 0), ("U D", 1), ("UD\n", 2), ("\n", 0), ("U1D", 1),
    ("UUxDD", 2), ("UUx", 2), ("xDD", 0), ("DDx", 0), ("UDDx", 2), ("UDxD", 2), ("()", 0), ("UUUU~", 4), ("None", 0),
    ("U" * 60, 60), ("U" * 59, 59), ("U" * 31 + "D" * 29, 60), ("UD" * 29 + "DU", 58), ("UD" * 29 + "UU", 60),
    ("D" * 60, 0), ("U" * 59 + "x", 59), ("x" + "U" * 59, 0), ("UD" * 29 + "U", 59),
    ("U" * 61, None), ("UD" * 30 + "U", None), ("UD" * 30 + "D", None), ("UD" * 31, None), ("U" * 31 + "D" * 31, None),
    ("D" * 61, None), ("x" * 61, None), ("x" + "UD" * 30, None), ("UD" * 5000, None), ("\n" * 10000, None),
]

# Every function with one parameter `word` and no error but InvalidWord.
PLAIN_FUNCTIONS = [validate_word, size_of, partners, heights, touch_points, reversed_word]


class Validation(unittest.TestCase):
    def check(self, value, expected):
        if expected == "valid":
            self.assertIsNone(validate_word(value))
            self.assertIs(is_word(value), True)
        else:
            assert_raises_field(self, InvalidWord, "position", expected, validate_word, value)
            self.assertIs(is_word(value), False)

    def test_the_examples_of_the_interface(self):
        self.check("UDD", 2)
        self.check("UUD", 3)

    def test_the_number_of_words_of_each_small_size(self):
        for size, count in enumerate(CATALAN):
            texts = ("".join(letters) for letters in product("UD", repeat=2 * size))
            self.assertEqual(sum(is_word(text) for text in texts), count)

    def test_all_short_strings(self):
        for length in range(8):
            for letters in product("UDx", repeat=length):
                text = "".join(letters)
                self.check(text, first_fault(text))

    def test_all_strings_of_letters_up_to_length_12(self):
        for length in range(8, 13):
            for letters in product("UD", repeat=length):
                text = "".join(letters)
                self.check(text, first_fault(text))

    def test_large_words(self):
        for word in large_words():
            self.check(word, "valid")

    def test_listed_strings(self):
        for text, position in NO_WORDS:
            self.check(text, position)

    def test_every_other_character_is_found(self):
        for code in [10, *range(32, 127)]:
            if chr(code) not in "UD":
                self.check(chr(code), 0)
                self.check("UUD" + chr(code) + "D", 3)
                self.check("UD" * 29 + "U" + chr(code), 59)

    def test_size_0_and_the_lengths_around_the_limit(self):
        self.assertEqual(words.MOST_SIZE, 30)
        self.assertIs(words.MOST_SIZE.__class__, int)
        self.check("", "valid")
        self.check("UD" * 30, "valid")
        self.check("UD" * 29, "valid")
        self.check("U" * 30 + "D" * 30, "valid")
        self.check("UD" * 30 + "U", None)
        self.check("UD" * 31, None)

    def test_values_of_other_kinds(self):
        for value in no_text():
            self.check(value, None)

    def test_the_parameters_may_be_passed_by_name(self):
        self.assertIsNone(validate_word(word="UD"))
        self.assertIs(is_word(value="UD"), True)
        assert_raises_field(self, InvalidWord, "position", 0, validate_word, word="D")


class Faults(unittest.TestCase):
    """The errors of all functions but is_word, which has none."""

    def no_words(self):
        return NO_WORDS + [(value, None) for value in no_text()]

    def test_a_wrong_word(self):
        for function in [*PLAIN_FUNCTIONS, first_parts]:
            for value, position in self.no_words():
                assert_raises_field(self, InvalidWord, "position", position, function, value)
                assert_raises_field(self, InvalidWord, "position", position, function, word=value)

    def test_partner_checks_the_word_before_the_point(self):
        for value, position in self.no_words():
            for point in (1, 0, True, None, "UD"):
                assert_raises_field(self, InvalidWord, "position", position, partner, value, point)

    def test_partner_refuses_what_is_not_a_point(self):
        for word in ["", "UD", "UUDUDD", "U" * 30 + "D" * 30]:
            for point in no_points(len(word) // 2):
                assert_raises_field(self, InvalidPoint, "point", point, partner, word, point)
        assert_raises_field(self, InvalidPoint, "point", 1, partner, "", 1)
        assert_raises_field(self, InvalidPoint, "point", 3, partner, word="UD", point=3)

    def test_the_point_is_held_itself(self):
        for point in ([1], (1, 2), "1", {}):
            with self.assertRaises(InvalidPoint) as caught:
                partner("UD", point)
            self.assertIs(caught.exception.point, point)

    def test_first_parts_of_the_empty_word(self):
        assert_raises_field(self, EmptyWord, "size", 0, first_parts, "")

    def test_from_parts_checks_inner_then_rest_then_the_size(self):
        for value, position in self.no_words():
            assert_raises_field(self, InvalidWord, "position", position, from_parts, value, "")
            assert_raises_field(self, InvalidWord, "position", position, from_parts, "", value)
            assert_raises_field(self, InvalidWord, "position", position, from_parts, value, "UDD")
            assert_raises_field(self, InvalidWord, "position", position, from_parts, value, "UD" * 30)
            assert_raises_field(self, InvalidWord, "position", position, from_parts, "UD" * 30, value)
        assert_raises_field(self, InvalidWord, "position", 0, from_parts, "D", None)
        assert_raises_field(self, InvalidWord, "position", None, from_parts, None, "D")
        assert_raises_field(self, InvalidWord, "position", 2, from_parts, inner="UD", rest="UDD")

    def test_from_parts_with_a_result_of_size_30_and_above(self):
        for inner, rest in [(29, 0), (0, 29), (15, 14), (14, 15), (28, 1)]:
            self.assertEqual(from_parts("UD" * inner, "UD" * rest), "U" + "UD" * inner + "D" + "UD" * rest)
        for inner, rest in [(30, 0), (0, 30), (15, 15), (29, 1), (1, 29), (30, 30), (30, 1), (16, 15)]:
            size = inner + rest + 1
            assert_raises_field(self, InvalidSize, "size", size, from_parts, "UD" * inner, "UD" * rest)

    def test_wrong_arguments_are_not_modified(self):
        for value in (["U", "D"], {"U": ["D"]}, [["U"]], bytearray(b"UD")):
            before = copy.deepcopy(value)
            self.assertIs(is_word(value), False)
            for function in [*PLAIN_FUNCTIONS, first_parts]:
                self.assertRaises(InvalidWord, function, value)
            self.assertRaises(InvalidWord, partner, value, 1)
            self.assertRaises(InvalidPoint, partner, "UD", value)
            self.assertRaises(InvalidWord, from_parts, value, "")
            self.assertRaises(InvalidWord, from_parts, "", value)
            self.assertEqual(value, before)


class Partners(unittest.TestCase):
    def test_the_examples_of_the_interface(self):
        self.assertEqual(partner("UUDUDD", 1), 6)
        self.assertEqual(partners("UUDUDD"), (6, 3, 2, 5, 4, 1))
        self.assertEqual(partner(word="UUDUDD", point=4), 5)
        self.assertEqual(partners(word="UD"), (2, 1))

    def test_size_0(self):
        self.assertEqual(partners(""), ())

    def test_the_definition(self):
        for word in sample_words():
            joined = partners(word)
            self.assertIs(joined.__class__, tuple)
            self.assertEqual(joined, joined_by_definition(word))
            self.assertEqual(tuple(partner(word, point) for point in range(1, len(word) + 1)), joined)

    def test_both_ends_of_the_nested_word_of_size_30(self):
        word = "U" * 30 + "D" * 30
        self.assertEqual(partners(word), tuple(range(60, 0, -1)))
        self.assertEqual(partner(word, 60), 1)
        self.assertEqual(partner(word, 1), 60)


class Measures(unittest.TestCase):
    def test_the_examples_of_the_interface(self):
        self.assertEqual(size_of("UUDUDD"), 3)
        self.assertEqual(heights("UUDUDD"), (0, 1, 2, 1, 2, 1, 0))
        self.assertEqual(touch_points("UDUUDD"), (2, 6))
        self.assertEqual(reversed_word("UUDDUD"), "UDUUDD")

    def test_size_0(self):
        self.assertEqual(size_of(""), 0)
        self.assertEqual(heights(""), (0,))
        self.assertEqual(touch_points(""), ())
        self.assertEqual(reversed_word(""), "")

    def test_the_definitions(self):
        for word in sample_words():
            prefixes = [word[:length] for length in range(len(word) + 1)]
            levels = tuple(prefix.count("U") - prefix.count("D") for prefix in prefixes)
            touched = tuple(point for point in range(1, len(word) + 1) if levels[point] == 0)
            self.assertEqual(size_of(word), word.count("U"))
            self.assertIs(size_of(word).__class__, int)
            self.assertEqual(heights(word), levels)
            self.assertIs(heights(word).__class__, tuple)
            self.assertEqual(touch_points(word), touched)
            self.assertIs(touch_points(word).__class__, tuple)
            self.assertEqual(touch_points(word)[-1:], (len(word),) if word else ())

    def test_the_reversed_word(self):
        for word in sample_words():
            turned = reversed_word(word)
            self.assertTrue(is_word(turned))
            self.assertEqual(reversed_word(turned), word)
            for index, letter in enumerate(word):
                self.assertNotEqual(turned[-1 - index], letter)

    def test_the_parameters_may_be_passed_by_name(self):
        self.assertEqual(size_of(word="UD"), 1)
        self.assertEqual(heights(word="UD"), (0, 1, 0))
        self.assertEqual(touch_points(word="UD"), (2,))
        self.assertEqual(reversed_word(word="UD"), "UD")


class Parts(unittest.TestCase):
    def test_the_examples_of_the_interface(self):
        self.assertEqual(first_parts("UUDUDD"), ("UDUD", ""))
        self.assertEqual(from_parts("", "UD"), "UDUD")

    def test_small_results(self):
        self.assertEqual(from_parts("", ""), "UD")
        self.assertEqual(from_parts("UD", ""), "UUDD")
        self.assertEqual(from_parts(inner="UD", rest="UUDD"), "UUDDUUDD")
        self.assertEqual(from_parts(rest="UD", inner=""), "UDUD")
        self.assertEqual(first_parts(word="UD"), ("", ""))
        self.assertEqual(first_parts("UDUUDD"), ("", "UUDD"))

    def test_all_pairs_of_small_words(self):
        for size in range(1, 7):
            built = []
            for first in range(size):
                for inner, rest in product(words_of_size(first), words_of_size(size - 1 - first)):
                    word = from_parts(inner, rest)
                    self.assertEqual(word, "U" + inner + "D" + rest)
                    self.assertEqual(first_parts(word), (inner, rest))
                    built.append(word)
            self.assertEqual(sorted(built), sorted(words_of_size(size)))

    def test_parts_are_words_and_restore_the_word(self):
        for word in sample_words():
            if word:
                parts = first_parts(word)
                self.assertIs(parts.__class__, tuple)
                self.assertEqual([is_word(part) for part in parts], [True, True])
                self.assertEqual(from_parts(*parts), word)


class Rebuilt(unittest.TestCase):
    """The functions of words, computed from the parts of a word."""

    def test_partners_heights_touch_points_and_reversed_word(self):
        for word in sample_words():
            if word:
                self.check(word, *first_parts(word))

    def check(self, word, inner, rest):
        closer = len(inner) + 2
        self.assertEqual(partner(word, 1), closer)
        self.assertEqual(partner(word, closer), 1)
        inside = tuple(point + 1 for point in partners(inner))
        behind = tuple(point + closer for point in partners(rest))
        self.assertEqual(partners(word), (closer, *inside, 1, *behind))
        raised = tuple(height + 1 for height in heights(inner))
        self.assertEqual(heights(word), (0, *raised, *heights(rest)))
        self.assertEqual(touch_points(word), (closer, *(point + closer for point in touch_points(rest))))
        self.assertEqual(reversed_word(word), reversed_word(rest) + "U" + reversed_word(inner) + "D")
        self.assertEqual(size_of(word), size_of(inner) + size_of(rest) + 1)

    def test_words_cut_at_their_touch_points(self):
        for word in small_words():
            cuts = (0, *touch_points(word))
            pieces = [word[low:high] for low, high in zip(cuts, cuts[1:])]
            self.assertEqual("".join(pieces), word)
            for piece in pieces:
                self.assertEqual(touch_points(piece), (len(piece),))
                self.assertEqual(first_parts(piece), (piece[1:-1], ""))

    def test_the_reversed_word_has_the_mirrored_partners_and_heights(self):
        for word in sample_words():
            last = len(word) + 1
            mirrored = tuple(last - point for point in reversed(partners(word)))
            self.assertEqual(partners(reversed_word(word)), mirrored)
            self.assertEqual(heights(reversed_word(word)), heights(word)[::-1])


if __name__ == "__main__":
    unittest.main()
