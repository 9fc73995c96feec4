import copy
import unittest
from functools import lru_cache
from itertools import product

from chordturn.errors import InvalidNumber, InvalidSize, InvalidWord
from chordturn.numbering import completion_count, next_word, number_of, previous_word, word_at, word_count
from tests.support import (
    CATALAN, Plain, assert_raises_field, assert_same, large_words, no_integers, no_text, scattered_word, small_words,
    words_of_size,
)
from tests.wrong import no_sizes

# C(60, 30) / 31 is the number of words of the greatest size.
COUNT_30 = 3814986502092304

NO_WORDS = [
    ("D", 0), ("U", 1), ("UDD", 2), ("UUD", 3), ("ud", 0), ("UD ", 2), ("U" * 60, 60), ("UD" * 29 + "DU", 58),
    ("UD" * 30 + "U", None), ("UD" * 31, None), ("U" * 31 + "D" * 31, None),
]


@lru_cache(maxsize=None)
def rows_of_counts(length):
    """The numbers of completions of all heights up to 1000, by 9.3: begin with U or with D."""
    if length == 0:
        return (1,) + (0,) * 1001
    row = rows_of_counts(length - 1)
    return tuple((row[height - 1] if height > 0 else 0) + row[height + 1] for height in range(1001)) + (0,)


def ways(height, length):
    for done in range(0, length, 200):
        rows_of_counts(done)
    return rows_of_counts(length)[height]


def smallest_completion(height, length):
    return "D" * height + "UD" * ((length - height) // 2)


def greatest_completion(height, length):
    rises = (length - height) // 2
    return "U" * rises + "D" * (rises + height)


def changed_at_last(word, old, new, fill):
    """The word that differs from the given one as late as possible, by a new letter and a filled rest."""
    for place in range(len(word) - 1, -1, -1):
        start = word[:place] + new
        height = start.count("U") - start.count("D")
        if word[place] == old and 0 <= height <= len(word) - place - 1:
            return start + fill(height, len(word) - place - 1)
    return None


def following_word(word):
    return changed_at_last(word, "D", "U", smallest_completion)


def preceding_word(word):
    return changed_at_last(word, "U", "D", greatest_completion)


class Counting(unittest.TestCase):
    def test_the_examples_of_the_interface(self):
        assert_same(self, word_count(3), 5)
        assert_same(self, completion_count(2, 4), 3)

    def test_small_sizes(self):
        for size, count in enumerate(CATALAN):
            assert_same(self, word_count(size), count)
        assert_same(self, word_count(size=30), COUNT_30)
        assert_same(self, word_count(31), 14544636039226909)

    def test_all_sizes(self):
        counts = [1]
        for size in range(1, 501):
            # C(2 * n, n) / (n + 1) is this multiple of the number before it.
            product_before = counts[-1] * 2 * (2 * size - 1)
            self.assertEqual(product_before % (size + 1), 0)
            counts.append(product_before // (size + 1))
        self.assertEqual([word_count(size) for size in range(501)], counts)

    def test_words_are_pairs_of_smaller_words(self):
        for size in range(1, 60):
            expected = sum(word_count(inner) * word_count(size - 1 - inner) for inner in range(size))
            self.assertEqual(word_count(size), expected)

    def test_small_completions_one_by_one(self):
        for length in range(11):
            texts = list(product((1, -1), repeat=length))
            for height in range(13):
                count = 0
                for text in texts:
                    levels = [height + sum(text[:end]) for end in range(length + 1)]
                    count += min(levels) >= 0 and levels[-1] == 0
                assert_same(self, completion_count(height, length), count)

    def test_completions_up_to_the_limit(self):
        for length in [*range(0, 60), 61, 99, 100, 250, 251, 498, 499, 500]:
            for height in [*range(0, 63), 99, 100, 249, 250, 251, 252, 497, 498, 499, 500]:
                self.assertEqual(completion_count(height, length), ways(height, length))

    def test_edges_of_the_completions(self):
        assert_same(self, completion_count(0, 0), 1)
        assert_same(self, completion_count(height=1, length=0), 0)
        assert_same(self, completion_count(0, 1), 0)
        assert_same(self, completion_count(1, 1), 1)
        assert_same(self, completion_count(length=2, height=0), 1)
        assert_same(self, completion_count(500, 500), 1)
        assert_same(self, completion_count(500, 499), 0)
        assert_same(self, completion_count(498, 500), 499)
        assert_same(self, completion_count(500, 0), 0)

    def test_the_completions_of_the_height_0_are_the_words(self):
        for size in range(251):
            self.assertEqual(completion_count(0, 2 * size), word_count(size))

    def test_the_count_of_the_greatest_size(self):
        self.assertEqual(word_count(500), ways(0, 1000))
        self.assertEqual(len(str(word_count(500))), 297)


class Faults(unittest.TestCase):
    def test_sizes_that_are_not_counted(self):
        for value in no_sizes(0, 500):
            assert_raises_field(self, InvalidSize, "size", value, word_count, value)
            assert_raises_field(self, InvalidSize, "size", value, word_count, size=value)

    def test_the_height_is_checked_before_the_length(self):
        for value in no_sizes(0, 500):
            for valid in (0, 1, 2, 500):
                assert_raises_field(self, InvalidSize, "size", value, completion_count, value, valid)
                assert_raises_field(self, InvalidSize, "size", value, completion_count, valid, value)
                assert_raises_field(self, InvalidSize, "size", value, completion_count, length=value, height=valid)
            assert_raises_field(self, InvalidSize, "size", value, completion_count, value, "length")
            assert_raises_field(self, InvalidSize, "size", "height", completion_count, "height", value)
        assert_raises_field(self, InvalidSize, "size", 501, completion_count, 501, -1)
        assert_raises_field(self, InvalidSize, "size", -1, completion_count, -1, 501)

    def test_word_at_checks_the_size_before_the_number(self):
        for value in no_sizes(0, 30):
            for number in (0, 1, -1, None, True, "0"):
                assert_raises_field(self, InvalidSize, "size", value, word_at, value, number)
        assert_raises_field(self, InvalidSize, "size", 31, word_at, number=0, size=31)

    def test_numbers_that_no_word_has(self):
        for size in (0, 1, 2, 3, 6, 29, 30):
            count = ways(0, 2 * size)
            for value in no_integers() + [-1, -2, count, count + 1, 2 * count, 10 ** 999, -(10 ** 999)]:
                assert_raises_field(self, InvalidNumber, "number", value, word_at, size, value)
                assert_raises_field(self, InvalidNumber, "number", value, word_at, size=size, number=value)

    def test_no_words(self):
        for value, position in NO_WORDS + [(value, None) for value in no_text()]:
            for function in (number_of, next_word, previous_word):
                assert_raises_field(self, InvalidWord, "position", position, function, value)
                assert_raises_field(self, InvalidWord, "position", position, function, word=value)

    def test_the_fields_hold_the_arguments_themselves(self):
        for value in ([1], (1, 2), "1", {}, Plain()):
            with self.assertRaises(InvalidSize) as caught:
                word_count(value)
            self.assertIs(caught.exception.size, value)
            with self.assertRaises(InvalidNumber) as caught:
                word_at(2, value)
            self.assertIs(caught.exception.number, value)

    def test_wrong_arguments_are_not_modified(self):
        for value in ([0], {0: [1]}, [["U", "D"]], ([1],)):
            before = copy.deepcopy(value)
            self.assertRaises(InvalidSize, word_count, value)
            self.assertRaises(InvalidSize, completion_count, value, 0)
            self.assertRaises(InvalidSize, completion_count, 0, value)
            self.assertRaises(InvalidSize, word_at, value, 0)
            self.assertRaises(InvalidNumber, word_at, 0, value)
            for function in (number_of, next_word, previous_word):
                self.assertRaises(InvalidWord, function, value)
            self.assertEqual(value, before)


class Numbering(unittest.TestCase):
    def test_the_examples_of_the_interface(self):
        assert_same(self, word_at(3, 3), "UUDUDD")
        assert_same(self, number_of("UUDUDD"), 3)
        assert_same(self, next_word("UDUUDD"), "UUDDUD")
        assert_same(self, previous_word("UUDUDD"), "UUDDUD")

    def test_sizes_0_1_and_2(self):
        for word in ("", "UD"):
            assert_same(self, word_at(len(word) // 2, 0), word)
            assert_same(self, number_of(word), 0)
            self.assertIsNone(next_word(word))
            self.assertIsNone(previous_word(word))
        assert_same(self, word_at(size=2, number=1), "UUDD")
        assert_same(self, number_of(word="UUDD"), 1)
        assert_same(self, next_word(word="UDUD"), "UUDD")
        assert_same(self, previous_word(word="UUDD"), "UDUD")
        self.assertIsNone(next_word("UUDD"))
        self.assertIsNone(previous_word("UDUD"))

    def test_all_words_of_small_sizes(self):
        for size in range(8):
            words = sorted(words_of_size(size))
            self.assertEqual(len(words), word_count(size))
            for number, word in enumerate(words):
                assert_same(self, word_at(size, number), word)
                assert_same(self, number_of(word), number)
                assert_same(self, next_word(word), words[number + 1] if number + 1 < len(words) else None)
                assert_same(self, previous_word(word), words[number - 1] if number > 0 else None)

    def test_both_ends_of_every_size(self):
        for size in range(31):
            first, last = "UD" * size, "U" * size + "D" * size
            count = ways(0, 2 * size)
            assert_same(self, word_at(size, 0), first)
            assert_same(self, word_at(size, count - 1), last)
            assert_same(self, number_of(first), 0)
            assert_same(self, number_of(last), count - 1)
            self.assertIsNone(previous_word(first))
            self.assertIsNone(next_word(last))
            if size > 1:
                second = "UD" * (size - 2) + "UUDD"
                assert_same(self, next_word(first), second)
                assert_same(self, previous_word(second), first)
                before_last = "U" * (size - 1) + "DUD" + "D" * (size - 2)
                assert_same(self, next_word(before_last), last)
                assert_same(self, previous_word(last), before_last)
                assert_same(self, word_at(size, count - 2), before_last)

    def test_words_of_every_size(self):
        for size in range(31):
            for state in range(1, 12):
                self.check(scattered_word(size, state))

    def test_sample_words(self):
        for word in small_words() + large_words():
            self.check(word)

    def check(self, word):
        size = len(word) // 2
        number = number_of(word)
        self.assertEqual(number, self.number_by_definition(word))
        assert_same(self, word_at(size, number), word)
        after, before = next_word(word), previous_word(word)
        assert_same(self, after, following_word(word))
        assert_same(self, before, preceding_word(word))
        if after is not None:
            self.assertGreater(after, word)
            self.assertEqual(number_of(after), number + 1)
            self.assertEqual(previous_word(after), word)
        if before is not None:
            self.assertLess(before, word)
            self.assertEqual(number_of(before), number - 1)
            self.assertEqual(next_word(before), word)

    def number_by_definition(self, word):
        """The number of smaller words: where such a word first differs, it has a D and the word has a U."""
        number = 0
        for place, letter in enumerate(word):
            height = word[:place].count("U") - word[:place].count("D")
            if letter == "U" and height > 0:
                number += ways(height - 1, len(word) - place - 1)
        return number

    def test_numbers_of_every_size(self):
        for size in range(31):
            count = ways(0, 2 * size)
            numbers = sorted({number for part in range(24) for number in self.around(count * part // 23)})
            words = [word_at(size, number) for number in numbers if 0 <= number < count]
            self.assertEqual(words, sorted(set(words)))
            self.assertEqual([number_of(word) for word in words], [n for n in numbers if 0 <= n < count])

    def around(self, number):
        return number - 1, number, number + 1

    def test_a_walk_from_the_first_word_to_the_last_one_and_back(self):
        for size in range(7):
            forward = ["UD" * size]
            while forward[-1] is not None:
                forward.append(next_word(forward[-1]))
            backward = ["U" * size + "D" * size]
            while backward[-1] is not None:
                backward.append(previous_word(backward[-1]))
            self.assertEqual(forward[:-1], sorted(words_of_size(size)))
            self.assertEqual(backward[:-1], sorted(words_of_size(size), reverse=True))


if __name__ == "__main__":
    unittest.main()
