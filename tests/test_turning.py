"""The representations side by side: one rotation, one reflection, and the parts of a word in all of them."""

import unittest
from itertools import product

from chordturn.diagrams import depths, diagram_of, joined_to, reflect, rotate, short_chords, word_of_diagram
from chordturn.numbering import next_word, number_of, word_at, word_count
from chordturn.partitions import complement, diagram_of_partition, partition_of, partition_rank
from chordturn.tableaux import demote, evacuate, is_tableau, promote, tableau_of, word_of
from chordturn.words import first_parts, from_parts, heights, partner, reversed_word
from tests.support import (
    CATALAN, assert_same, chords_of, diagrams_of_size, large_words, partitions_of_size, rows_of, sample_words,
    small_words, words_of_size,
)


def shifted(chords, by):
    return tuple((low + by, high + by) for low, high in chords)


class OneStep(unittest.TestCase):
    def test_promotion_rotation_and_complement(self):
        for word in sample_words():
            tableau, diagram = tableau_of(word), diagram_of(word)
            partition = partition_of(diagram)
            promoted = word_of(promote(tableau))
            assert_same(self, diagram_of(promoted), rotate(diagram))
            assert_same(self, partition_of(diagram_of(promoted)), complement(partition))
            assert_same(self, tableau_of(word_of_diagram(rotate(diagram))), promote(tableau))
            assert_same(self, diagram_of_partition(complement(partition)), rotate(diagram))

    def test_demotion_and_the_rotation_back(self):
        for word in sample_words():
            tableau, diagram = tableau_of(word), diagram_of(word)
            assert_same(self, diagram_of(word_of(demote(tableau))), rotate(diagram, steps=-1))
            assert_same(self, complement(partition_of(rotate(diagram, steps=-1))), partition_of(diagram))

    def test_the_reversed_word_the_reflected_diagram_and_the_evacuated_tableau(self):
        for word in sample_words():
            turned_back = reversed_word(word)
            assert_same(self, diagram_of(turned_back), reflect(diagram_of(word)))
            assert_same(self, tableau_of(turned_back), evacuate(tableau_of(word)))
            assert_same(self, word_of_diagram(reflect(diagram_of(word))), word_of(evacuate(tableau_of(word))))

    def test_reflecting_a_rotation(self):
        for word in sample_words():
            tableau = tableau_of(word)
            assert_same(self, evacuate(promote(evacuate(tableau))), demote(tableau))
            found = reflect(rotate(reflect(diagram_of(word))))
            assert_same(self, word_of_diagram(found), word_of(demote(tableau)))


class ManySteps(unittest.TestCase):
    def test_all_words_of_small_sizes_all_the_way_around(self):
        for size in range(6):
            for word in words_of_size(size):
                self.check(word, 2 * size + 1)

    def test_large_words(self):
        for word in large_words()[:5]:
            self.check(word, 60)
        for word in large_words()[5:]:
            self.check(word, 9)

    def check(self, word, most):
        diagram = diagram_of(word)
        up = down = tableau_of(word)
        partition = partition_of(diagram)
        for steps in range(1, most + 1):
            up, down, partition = promote(up), demote(down), complement(partition)
            forward = rotate(diagram, steps=steps)
            assert_same(self, up, tableau_of(word_of_diagram(forward)))
            assert_same(self, partition, partition_of(forward))
            assert_same(self, down, tableau_of(word_of_diagram(rotate(diagram, steps=-steps))))
            if steps == len(word):
                assert_same(self, (up, down, partition), (tableau_of(word), tableau_of(word), partition_of(diagram)))

    def test_steps_of_many_digits_are_steps_around_the_circle(self):
        for word in sample_words():
            if word:
                tableau = tableau_of(word)
                for _ in range(3):
                    tableau = promote(tableau)
                steps = 10 ** 900 * len(word) + 3
                assert_same(self, word_of_diagram(rotate(diagram_of(word), steps=steps)), word_of(tableau))

    def test_turning_and_mirroring_in_all_representations(self):
        for word in sample_words():
            diagram, tableau = diagram_of(word), tableau_of(word)
            for move in "tmttmbmtbbmt":
                if move == "t":
                    diagram, tableau = rotate(diagram), promote(tableau)
                elif move == "b":
                    diagram, tableau = rotate(diagram, steps=-1), demote(tableau)
                else:
                    diagram, tableau = reflect(diagram), evacuate(tableau)
                assert_same(self, word_of_diagram(diagram), word_of(tableau))


class Parts(unittest.TestCase):
    def test_the_diagram_and_the_depths_of_a_built_word(self):
        pairs = list(product([word for word in small_words() if len(word) <= 8], repeat=2))
        pairs += [("UD" * 14, "UUDD" * 7 + "UD"), ("U" * 29 + "D" * 29, ""), ("", "U" * 29 + "D" * 29)]
        for inner, rest in pairs:
            self.check(from_parts(inner, rest), inner, rest)

    def test_the_parts_of_sample_words(self):
        for word in sample_words():
            if word:
                self.check(word, *first_parts(word))

    def check(self, word, inner, rest):
        closer = len(inner) + 2
        behind = shifted(diagram_of(rest), closer)
        expected = ((1, closer), *shifted(diagram_of(inner), 1), *behind)
        assert_same(self, diagram_of(word), expected)
        assert_same(self, depths(diagram_of(word)), (0, *(depth + 1 for depth in depths(diagram_of(inner))),
                                                     *depths(diagram_of(rest))))
        assert_same(self, joined_to(diagram_of(word), 1), closer)
        # Rotating by 1 opens the first chord and closes it behind everything else.
        opened = (*diagram_of(inner), (closer - 1, len(word)), *shifted(diagram_of(rest), closer - 1))
        assert_same(self, rotate(diagram_of(word)), opened)
        assert_same(self, number_of(word), number_of(from_parts(inner, "UD" * (len(rest) // 2))) + number_of(rest))

    def test_the_numbers_of_built_words_ascend_with_their_parts(self):
        for first, second in product(range(5), repeat=2):
            words = [from_parts(a, b) for a in sorted(words_of_size(first)) for b in sorted(words_of_size(second))]
            numbers = [number_of(word) for word in words]
            self.assertEqual(numbers, sorted(set(numbers)))
            for word, number in zip(words, numbers):
                assert_same(self, word_at(first + second + 1, number), word)

    def test_words_built_from_the_words_of_the_numbering(self):
        for inner_size, rest_size in [(3, 4), (0, 7), (7, 0), (14, 15), (28, 1), (29, 0), (0, 29)]:
            for part in range(5):
                inner = word_at(inner_size, (word_count(inner_size) - 1) * part // 4)
                rest = word_at(rest_size, (word_count(rest_size) - 1) * (4 - part) // 4)
                word = from_parts(inner, rest)
                assert_same(self, word_at(inner_size + rest_size + 1, number_of(word)), word)
                assert_same(self, first_parts(word), (inner, rest))
                self.check(word, inner, rest)

    def test_depths_are_the_heights_before_the_openers(self):
        for word in sample_words():
            levels = heights(word)
            expected = tuple(levels[low - 1] for low, _ in diagram_of(word))
            assert_same(self, depths(diagram_of(word)), expected)

    def test_the_diagram_joins_every_point_to_its_partner(self):
        for word in sample_words():
            for point in range(1, len(word) + 1):
                assert_same(self, joined_to(diagram_of(word), point), partner(word, point))


class WholeSizes(unittest.TestCase):
    def test_the_numbering_reaches_every_diagram_tableau_and_partition_once(self):
        for size, count in enumerate(CATALAN):
            words = [word_at(size, number) for number in range(word_count(size))]
            self.assertEqual(len(words), count)
            diagrams = [diagram_of(word) for word in words]
            self.assertEqual(tuple(sorted(diagrams)), diagrams_of_size(size))
            tableaux = [tableau_of(word) for word in words]
            self.assertEqual(tableaux, [rows_of(word) for word in words])
            self.assertEqual(len(set(tableaux)), count)
            self.assertTrue(all(is_tableau(tableau) for tableau in tableaux))
            partitions = [partition_of(diagram) for diagram in diagrams]
            self.assertEqual(tuple(sorted(partitions)), partitions_of_size(size))

    def test_a_walk_through_the_words(self):
        word = "UD" * 6
        found = []
        while word is not None:
            found.append(chords_of(word))
            assert_same(self, diagram_of(word), found[-1])
            word = next_word(word)
        self.assertEqual(tuple(sorted(found)), diagrams_of_size(6))

    def test_each_move_permutes_a_size(self):
        for size in range(len(CATALAN)):
            partitions = partitions_of_size(size)
            self.assertEqual(tuple(sorted(complement(partition) for partition in partitions)), partitions)
            tableaux = sorted(rows_of(word) for word in words_of_size(size))
            for move in (promote, demote, evacuate):
                self.assertEqual(sorted(move(tableau) for tableau in tableaux), tableaux)

    def test_the_numbers_of_partitions_by_rank(self):
        # The numbers of partitions of a size by rank are those of Narayana: C(n, r) * C(n, r + 1) / n.
        for size, expected in enumerate([(1,), (1,), (1, 1), (1, 3, 1), (1, 6, 6, 1), (1, 10, 20, 10, 1)]):
            ranks = [partition_rank(partition) for partition in partitions_of_size(size)]
            self.assertEqual(tuple(ranks.count(rank) for rank in range(max(size, 1))), expected)

    def test_the_short_chords_of_all_diagrams_of_a_size(self):
        # Each of the 2 * n pairs of neighbours is joined in as many diagrams as there are of the size n - 1.
        for size in range(2, len(CATALAN)):
            total = sum(len(short_chords(diagram)) for diagram in diagrams_of_size(size))
            self.assertEqual(total, 2 * size * CATALAN[size - 1])


if __name__ == "__main__":
    unittest.main()
