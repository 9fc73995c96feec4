import copy
import unittest
from itertools import combinations, product

from chordturn.diagrams import reflect, rotate
from chordturn.errors import InvalidDiagram, InvalidSize, SizesDiffer, TooLarge
from chordturn.loops import loop_count, loop_table, loops
from tests.support import (
    CATALAN, assert_raises_field, assert_same, diagrams_of_size, large_diagrams, large_words, small_diagrams,
)
from tests.wrong import FLAT_30, NESTED_30, no_diagrams, no_sizes


def joined_in(chords, point):
    (found,) = [low if high == point else high for low, high in chords if point in (low, high)]
    return found


def loops_by_definition(inner, outer):
    """15.1, from each smallest point that is in no loop yet."""
    found = []
    for start in range(1, 2 * len(inner) + 1):
        if any(start in loop for loop in found):
            continue
        loop = [start]
        chords = inner
        while True:
            point = joined_in(chords, loop[-1])
            if point == start:
                break
            loop.append(point)
            chords = outer if chords is inner else inner
        found.append(tuple(loop))
    return tuple(found)


def parts_joined(inner, outer):
    """The number of parts of the points that the chords of both join together."""
    part = {point: point for chord in inner for point in chord}
    for low, high in inner + outer:
        old, new = part[low], part[high]
        part = {point: new if number == old else number for point, number in part.items()}
    return len(set(part.values()))


def large_pairs():
    diagrams = large_diagrams()
    pairs = [pair for pair in combinations(diagrams, 2) if len(pair[0]) == len(pair[1])]
    assert len(diagrams) == len(large_words()) and len(pairs) > 50
    return pairs[::2]


class Loops(unittest.TestCase):
    def test_the_examples_of_the_interface(self):
        assert_same(self, loops(((1, 2), (3, 4)), ((1, 4), (2, 3))), ((1, 2, 3, 4),))
        assert_same(self, loop_count(((1, 6), (2, 3), (4, 5)), ((1, 6), (2, 3), (4, 5))), 3)

    def test_all_pairs_of_small_diagrams(self):
        for size in range(6):
            for inner, outer in product(diagrams_of_size(size), repeat=2):
                self.check(inner, outer)

    def test_large_diagrams(self):
        for inner, outer in large_pairs():
            self.check(inner, outer)
            self.check(outer, inner)

    def check(self, inner, outer):
        found = loops(inner, outer)
        expected = loops_by_definition(inner, outer)
        if inner != outer:
            assert_same(self, found, expected)
        self.assertEqual(loop_count(inner, outer), parts_joined(inner, outer))
        assert_same(self, loop_count(inner, outer), len(found))
        self.assertEqual(list(found), sorted(found))
        self.assertEqual(sorted(point for loop in found for point in loop), list(range(1, 2 * len(inner) + 1)))
        for loop in found:
            self.assertEqual(loop[0], min(loop))
            for index in range(0, len(loop), 2):
                self.assertEqual(joined_in(inner, loop[index]), loop[index + 1])
                self.assertEqual(joined_in(outer, loop[index + 1]), (loop + loop[:1])[index + 2])

    def test_the_two_ways_to_walk(self):
        # The first step follows the inner diagram, so the loops differ if the diagrams change places.
        inner, outer = ((1, 2), (3, 6), (4, 5)), ((1, 4), (2, 3), (5, 6))
        assert_same(self, loops(inner, outer), ((1, 2, 3, 6, 5, 4),))
        assert_same(self, loops(outer, inner), ((1, 4, 5, 6, 3, 2),))
        assert_same(self, loops(outer=inner, inner=outer), ((1, 4, 5, 6, 3, 2),))
        inner, outer = ((1, 2), (3, 4), (5, 6)), ((1, 2), (3, 6), (4, 5))
        assert_same(self, loops(inner, outer), ((1, 2), (3, 4, 5, 6)))
        assert_same(self, loops(outer, inner), ((1, 2), (3, 6, 5, 4)))

    def test_sizes_0_1_and_30(self):
        assert_same(self, loops((), ()), ())
        assert_same(self, loop_count((), ()), 0)
        assert_same(self, loops(((1, 2),), ((1, 2),)), ((1, 2),))
        assert_same(self, loop_count(outer=FLAT_30, inner=NESTED_30), 15)
        assert_same(self, loops(NESTED_30, FLAT_30)[0], (1, 60, 59, 2))
        assert_same(self, loops(NESTED_30, NESTED_30), NESTED_30)
        assert_same(self, loops(FLAT_30, FLAT_30), FLAT_30)

    def test_n_loops_exactly_if_the_diagrams_are_equal(self):
        for size in range(6):
            for inner, outer in product(diagrams_of_size(size), repeat=2):
                count = loop_count(inner, outer)
                self.assertLessEqual(count, size)
                self.assertEqual(count == size, inner == outer)
        for diagram in small_diagrams() + large_diagrams():
            assert_same(self, loops(diagram, diagram), diagram)

    def test_moving_both_diagrams(self):
        pairs = [pair for size in range(5) for pair in product(diagrams_of_size(size), repeat=2)] + large_pairs()
        for inner, outer in pairs:
            count = loop_count(inner, outer)
            self.assertEqual(loop_count(outer, inner), count)
            self.assertEqual(loop_count(reflect(inner), reflect(outer)), count)
            for steps in (1, -1, 4, 10 ** 40):
                self.assertEqual(loop_count(rotate(inner, steps=steps), rotate(outer, steps=steps)), count)


class Tables(unittest.TestCase):
    def test_the_examples_of_the_interface(self):
        assert_same(self, loop_table(2), ((2, 1), (1, 2)))

    def test_all_sizes(self):
        for size in range(6):
            diagrams = diagrams_of_size(size)
            self.assertEqual(len(diagrams), CATALAN[size])
            expected = tuple(tuple(parts_joined(inner, outer) for outer in diagrams) for inner in diagrams)
            assert_same(self, loop_table(size=size), expected)
        assert_same(self, loop_table(0), ((0,),))
        assert_same(self, loop_table(1), ((1,),))
        expected = ((3, 2, 2, 1, 2), (2, 3, 1, 2, 1), (2, 1, 3, 2, 1), (1, 2, 2, 3, 2), (2, 1, 1, 2, 3))
        assert_same(self, loop_table(3), expected)

    def test_tables_are_symmetric_with_the_size_on_the_diagonal_only(self):
        for size in range(6):
            table = loop_table(size)
            for a, b in product(range(len(table)), repeat=2):
                self.assertEqual(table[a][b], table[b][a])
                self.assertEqual(table[a][b] == size, a == b)

    def test_the_number_of_closed_meanders(self):
        # The pairs with a single loop are the meanders.
        for size, count in enumerate((0, 1, 2, 8, 42, 262)):
            self.assertEqual(sum(row.count(1) for row in loop_table(size)), count)


class Faults(unittest.TestCase):
    """The errors of all functions, in the order of the interface."""

    def test_the_first_diagram_is_checked_before_the_second_one(self):
        for value, index in no_diagrams():
            for function in (loops, loop_count):
                for other in ((), ((1, 2),), FLAT_30, None, ((1, 3),)):
                    assert_raises_field(self, InvalidDiagram, "index", index, function, value, other)
                for other in ((), ((1, 2),), FLAT_30):
                    assert_raises_field(self, InvalidDiagram, "index", index, function, other, value)
                assert_raises_field(self, InvalidDiagram, "index", index, function, outer=value, inner=())
                assert_raises_field(self, InvalidDiagram, "index", index, function, outer=None, inner=value)

    def test_sizes_that_differ(self):
        diagrams = [(), ((1, 2),), ((1, 4), (2, 3)), ((1, 2), (3, 4), (5, 6)), NESTED_30]
        for one, other in product(diagrams, repeat=2):
            if one != other:
                for function in (loops, loop_count):
                    sizes = (len(one), len(other))
                    assert_raises_field(self, SizesDiffer, "sizes", sizes, function, one, other)
                    assert_raises_field(self, SizesDiffer, "sizes", sizes, function, outer=other, inner=one)

    def test_tables_that_are_too_large(self):
        for value in no_sizes(0, 30):
            assert_raises_field(self, InvalidSize, "size", value, loop_table, value)
            assert_raises_field(self, InvalidSize, "size", value, loop_table, size=value)
        for size in range(6, 31):
            assert_raises_field(self, TooLarge, "limit", 5, loop_table, size)
        assert_raises_field(self, TooLarge, "limit", 5, loop_table, size=6)

    def test_wrong_arguments_are_not_modified(self):
        for value in ([1], {0: [1]}, ([1, 2],), ((1, [2]),), [[1, 2]]):
            before = copy.deepcopy(value)
            for function in (loops, loop_count):
                self.assertRaises(InvalidDiagram, function, value, ())
                self.assertRaises(InvalidDiagram, function, (), value)
            self.assertRaises(InvalidSize, loop_table, value)
            self.assertEqual(value, before)


if __name__ == "__main__":
    unittest.main()
