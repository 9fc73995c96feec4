import copy
import unittest
from itertools import permutations, product

from chordturn.diagrams import is_diagram, reflect
from chordturn.errors import InvalidDiagram, InvalidGenerator, InvalidSize, SizesDiffer, TooLarge
from chordturn.expansions import expand
from chordturn.loops import loop_count
from chordturn.matchings import is_matching
from chordturn.strands import (
    closure_loops, factorization, generator, identity, stack, stack_all, through_strands,
)
from tests.support import (
    added, assert_raises_field, assert_same, diagrams_of_size, large_diagrams, no_integers, no_text, no_tuples,
    sample_diagrams, scattered, small_diagrams,
)
from tests.wrong import FLAT_30, NESTED_30, no_diagrams, no_sizes


def straight(size):
    return tuple((point, 2 * size + 1 - point) for point in range(1, size + 1))


def hooked(size, number):
    """The generator of 16.3, from the names of its points."""
    top, bottom = {k: k for k in range(1, size + 1)}, {k: 2 * size + 1 - k for k in range(1, size + 1)}
    chords = [{top[number], top[number + 1]}, {bottom[number], bottom[number + 1]}]
    chords += [{top[k], bottom[k]} for k in top if k not in (number, number + 1)]
    return tuple(sorted(tuple(sorted(chord)) for chord in chords))


def stacked(upper, lower):
    """The stack of 16.2: joins the chords of both at the points of the middle, as sets of named points."""
    size = len(upper)

    def name(diagram, point):
        """Top point k of the lower diagram is the same point as bottom point k of the upper one."""
        level, number = (0, point) if point <= size else (1, 2 * size + 1 - point)
        return (level if diagram is upper_chords else level + 1), number

    upper_chords, lower_chords = list(upper), list(lower)
    parts = []
    for chords in (upper_chords, lower_chords):
        for chord in chords:
            part = {name(chords, point) for point in chord}
            touching = [other for other in parts if other & part]
            parts = [other for other in parts if not other & part] + [part.union(*touching)]
    chords = []
    removed = 0
    for part in parts:
        ends = [(number if level == 0 else 2 * size + 1 - number) for level, number in part if level != 1]
        assert len(ends) in (0, 2)
        if ends:
            chords.append(tuple(sorted(ends)))
        else:
            removed += 1
    return tuple(sorted(chords)), removed


def stack_of(size, numbers):
    diagram, total = straight(size), 0
    for number in numbers:
        diagram, removed = stacked(diagram, hooked(size, number))
        total += removed
    return diagram, total


def large_pairs():
    diagrams = large_diagrams() + [NESTED_30, FLAT_30]
    return [pair for pair in permutations(diagrams, 2) if len(pair[0]) == len(pair[1])][::9]


def scattered_numbers(size, length, state):
    numbers = scattered(state)
    return tuple(1 + next(numbers) % (size - 1) for _ in range(length))


def no_numbers(size):
    """Values of every kind that are no numbers of generators of a size."""
    return no_integers() + [0, -1, size, size + 1, 30, 31, 10 ** 999, -(10 ** 999)]


class Generators(unittest.TestCase):
    def test_the_examples_of_the_interface(self):
        assert_same(self, identity(2), ((1, 4), (2, 3)))
        assert_same(self, generator(3, 1), ((1, 2), (3, 4), (5, 6)))

    def test_all_sizes(self):
        for size in range(31):
            assert_same(self, identity(size), straight(size))
            assert_same(self, identity(size=size), straight(size))
            self.assertIs(is_diagram(identity(size)), True)
            for number in range(1, size):
                found = generator(number=number, size=size)
                assert_same(self, found, hooked(size, number))
                self.assertIs(is_diagram(found), True)

    def test_small_sizes_by_hand(self):
        assert_same(self, identity(0), ())
        assert_same(self, identity(1), ((1, 2),))
        assert_same(self, identity(3), ((1, 6), (2, 5), (3, 4)))
        assert_same(self, generator(2, 1), ((1, 2), (3, 4)))
        assert_same(self, generator(3, 2), ((1, 6), (2, 3), (4, 5)))
        assert_same(self, generator(4, 2), ((1, 8), (2, 3), (4, 5), (6, 7)))


class Stacks(unittest.TestCase):
    def test_the_examples_of_the_interface(self):
        assert_same(self, stack(generator(3, 1), generator(3, 2)), (((1, 2), (3, 6), (4, 5)), 0))
        assert_same(self, stack_all(2, (1, 1)), (((1, 2), (3, 4)), 1))

    def test_the_definition_for_small_sizes(self):
        for size in range(6):
            for upper, lower in product(diagrams_of_size(size), repeat=2):
                assert_same(self, stack(upper, lower), stacked(upper, lower))

    def test_the_definition_for_large_sizes(self):
        for upper, lower in large_pairs():
            found = stack(lower=lower, upper=upper)
            assert_same(self, found, stacked(upper, lower))
            self.assertIs(is_diagram(found[0]), True)

    def test_edges(self):
        assert_same(self, stack((), ()), ((), 0))
        assert_same(self, stack(((1, 2),), ((1, 2),)), (((1, 2),), 0))
        assert_same(self, stack(FLAT_30, FLAT_30), (FLAT_30, 15))
        assert_same(self, stack(NESTED_30, NESTED_30), (NESTED_30, 0))

    def test_the_identity(self):
        for diagram in sample_diagrams():
            assert_same(self, stack(diagram, identity(len(diagram))), (diagram, 0))
            assert_same(self, stack(identity(len(diagram)), diagram), (diagram, 0))

    def test_three_diagrams(self):
        triples = [triple for size in range(5) for triple in product(diagrams_of_size(size), repeat=3)]
        triples += [(upper, lower, upper) for upper, lower in large_pairs()]
        for first, second, third in triples[::3]:
            upper, removed = stack(first, second)
            left, more = stack(upper, third)
            lower, removed_below = stack(second, third)
            right, more_above = stack(first, lower)
            assert_same(self, (left, removed + more), (right, removed_below + more_above))

    def test_reflecting_a_stack(self):
        pairs = [pair for size in range(6) for pair in product(diagrams_of_size(size), repeat=2)] + large_pairs()
        for upper, lower in pairs:
            found, removed = stack(upper, lower)
            assert_same(self, stack(reflect(lower), reflect(upper)), (reflect(found), removed))

    def test_generators_are_their_own_reflections(self):
        for size in range(31):
            for number in range(1, size):
                self.assertEqual(reflect(generator(size, number)), generator(size, number))

    def test_the_relations_of_the_generators(self):
        for size in (2, 3, 4, 7, 30):
            for one, other in product(range(1, size), repeat=2):
                if one == other:
                    assert_same(self, stack_all(size, (one, one)), (generator(size, one), 1))
                elif abs(one - other) == 1:
                    assert_same(self, stack_all(size, (one, other, one)), (generator(size, one), 0))
                else:
                    assert_same(self, stack_all(size, (one, other)), stack_all(size, (other, one)))
                    self.assertEqual(stack_all(size, (one, other))[1], 0)

    def test_stacking_many_generators(self):
        for size in range(5):
            for length in range(5):
                for numbers in product(range(1, size), repeat=length):
                    assert_same(self, stack_all(size, numbers), stack_of(size, numbers))
        for size, length in ((5, 20), (8, 60), (30, 40)):
            for state in range(3):
                numbers = scattered_numbers(size, length, state)
                assert_same(self, stack_all(numbers=numbers, size=size), stack_of(size, numbers))

    def test_a_thousand_generators(self):
        assert_same(self, stack_all(2, (1,) * 1000), (generator(2, 1), 999))
        assert_same(self, stack_all(30, (29,) * 1000), (generator(30, 29), 999))
        numbers = scattered_numbers(30, 1000, 5)
        first, removed = stack_all(30, numbers[:400])
        second, more = stack_all(30, numbers[400:])
        found, last = stack(first, second)
        assert_same(self, stack_all(30, numbers), (found, removed + more + last))

    def test_the_stack_of_no_generators(self):
        for size in range(31):
            assert_same(self, stack_all(size, ()), (identity(size), 0))

    def test_through_strands(self):
        assert_same(self, through_strands(((1, 2), (3, 4), (5, 6))), 1)
        for diagram in sample_diagrams():
            size = len(diagram)
            tops = set(range(1, size + 1))
            expected = sum(len(tops & set(chord)) == 1 for chord in diagram)
            assert_same(self, through_strands(diagram), expected)
            self.assertEqual((size - expected) % 2, 0)
        assert_same(self, through_strands(()), 0)
        assert_same(self, through_strands(diagram=NESTED_30), 30)
        assert_same(self, through_strands(FLAT_30), 0)

    def test_a_stack_has_no_more_through_strands_than_its_parts(self):
        for size in range(6):
            for upper, lower in product(diagrams_of_size(size), repeat=2):
                found = through_strands(stack(upper, lower)[0])
                self.assertLessEqual(found, min(through_strands(upper), through_strands(lower)))


class Factorizations(unittest.TestCase):
    def test_the_examples_of_the_interface(self):
        assert_same(self, factorization(((1, 2), (3, 6), (4, 5))), (1, 2))

    def test_the_first_tuple_of_all(self):
        # All tuples are tried, the shortest ones first, and those of the same length in ascending order.
        for size, longest in enumerate((0, 0, 1, 2, 4, 6)):
            found = {}
            for length in range(longest + 1):
                for numbers in product(range(1, size), repeat=length):
                    diagram, removed = stack_of(size, numbers)
                    if diagram not in found:
                        self.assertEqual(removed, 0)
                        found[diagram] = numbers
            self.assertEqual(sorted(found), list(diagrams_of_size(size)))
            for diagram, numbers in found.items():
                assert_same(self, factorization(diagram), numbers)

    def test_size_6(self):
        best = {straight(6): ()}
        level = dict(best)
        while level:
            made = {}
            for diagram, numbers in level.items():
                for number in range(1, 6):
                    longer, _ = stacked(diagram, hooked(6, number))
                    if longer not in best:
                        made[longer] = min(made.get(longer, (9,)), numbers + (number,))
            best.update(made)
            level = made
        self.assertEqual(sorted(best), list(diagrams_of_size(6)))
        for diagram, numbers in best.items():
            assert_same(self, factorization(diagram=diagram), numbers)

    def test_the_stack_of_the_factorization(self):
        for diagram in small_diagrams():
            assert_same(self, stack_all(len(diagram), factorization(diagram)), (diagram, 0))

    def test_edges(self):
        for size in range(7):
            assert_same(self, factorization(identity(size)), ())
            for number in range(1, size):
                assert_same(self, factorization(generator(size, number)), (number,))
        assert_same(self, factorization(stack_all(4, (3, 1))[0]), (1, 3))
        assert_same(self, factorization(FLAT_30[:6]), (1, 3, 5))
        assert_same(self, max(len(factorization(diagram)) for diagram in diagrams_of_size(6)), 9)

    def test_the_reflection_has_a_factorization_of_the_same_length(self):
        for diagram in small_diagrams():
            numbers = factorization(diagram)
            found = factorization(reflect(diagram))
            self.assertEqual(len(found), len(numbers))
            self.assertLessEqual(found, numbers[::-1])


class Closures(unittest.TestCase):
    def test_the_examples_of_the_interface(self):
        assert_same(self, closure_loops(((1, 2), (3, 4), (5, 6))), 2)

    def test_closures_are_loops_with_the_identity(self):
        for diagram in sample_diagrams():
            assert_same(self, closure_loops(diagram), loop_count(diagram, straight(len(diagram))))
        assert_same(self, closure_loops(()), 0)
        assert_same(self, closure_loops(diagram=NESTED_30), 30)

    def test_the_closure_of_a_stack(self):
        # The bottom points of the upper diagram meet the top points of the lower one, and the other way around.
        pairs = [pair for size in range(6) for pair in product(diagrams_of_size(size), repeat=2)] + large_pairs()
        for upper, lower in pairs:
            found, removed = stack(upper, lower)
            self.assertEqual(closure_loops(found) + removed, loop_count(upper, reflect(lower)))
            turned_around, removed_then = stack(lower, upper)
            self.assertEqual(closure_loops(turned_around) + removed_then, closure_loops(found) + removed)

    def test_the_loops_of_two_diagrams_as_a_closure(self):
        for size in range(6):
            for inner, outer in product(diagrams_of_size(size), repeat=2):
                found, removed = stack(inner, reflect(outer))
                self.assertEqual(closure_loops(found) + removed, loop_count(inner, outer))

    def test_reflections_have_the_same_closure(self):
        for diagram in sample_diagrams():
            self.assertEqual(closure_loops(reflect(diagram)), closure_loops(diagram))


class Crossings(unittest.TestCase):
    """Strands that cross, one pair of neighbours after the other, from the top to the bottom."""

    def matching_of(self, size, numbers):
        places = list(range(1, size + 1))
        for number in numbers:
            places[number - 1], places[number] = places[number], places[number - 1]
        return tuple(sorted((top, 2 * size + 1 - place) for place, top in enumerate(places, start=1)))

    def sum_over_all_ways(self, size, numbers):
        total = {}
        for chosen in product((False, True), repeat=len(numbers)):
            kept = tuple(number for number, keep in zip(numbers, chosen) if keep)
            diagram, removed = stack_all(size, kept)
            total = added((total, 1), ({diagram: (-2) ** removed}, 1))
        return total

    def check(self, size, numbers):
        matching = self.matching_of(size, numbers)
        self.assertIs(is_matching(matching), True)
        assert_same(self, expand({matching: 1}), self.sum_over_all_ways(size, numbers))

    def test_all_short_rows_of_crossings(self):
        for size, longest in ((0, 0), (1, 0), (2, 5), (3, 5), (4, 4), (5, 3)):
            for length in range(longest + 1):
                for numbers in product(range(1, size), repeat=length):
                    self.check(size, numbers)

    def test_long_rows_of_crossings(self):
        for size, length in ((3, 8), (4, 8), (5, 8)):
            for state in range(4):
                self.check(size, scattered_numbers(size, length, state))
        # Every two strands cross once.
        self.check(5, (1, 2, 3, 4, 1, 2, 3, 1, 2, 1))

    def test_every_permutation_of_the_strands(self):
        for size in range(5):
            for order in permutations(range(size)):
                places, numbers = list(order), []
                for end in range(size, 0, -1):
                    for place in range(end - 1):
                        if places[place] > places[place + 1]:
                            places[place], places[place + 1] = places[place + 1], places[place]
                            numbers.append(place + 1)
                self.check(size, tuple(numbers))


class Faults(unittest.TestCase):
    """The errors of all functions, in the order of the interface."""

    def test_sizes(self):
        for value in no_sizes(0, 30):
            assert_raises_field(self, InvalidSize, "size", value, identity, value)
            assert_raises_field(self, InvalidSize, "size", value, identity, size=value)
            for other in (1, (1,), None, True):
                assert_raises_field(self, InvalidSize, "size", value, generator, value, other)
                assert_raises_field(self, InvalidSize, "size", value, stack_all, value, other)

    def test_numbers_of_no_generator(self):
        for size in (0, 1, 2, 3, 30):
            for value in no_numbers(size):
                if value.__class__ is not int or value not in range(1, size):
                    assert_raises_field(self, InvalidGenerator, "number", value, generator, size, value)
                    assert_raises_field(self, InvalidGenerator, "number", value, stack_all, size, (value,))
        for size in (0, 1):
            for value in (0, 1, 2):
                assert_raises_field(self, InvalidGenerator, "number", value, generator, number=value, size=size)

    def test_the_first_wrong_number_of_several(self):
        for value in no_numbers(4) + [4, 5]:
            if value.__class__ is int and value in range(1, 4):
                continue
            for numbers in ((1, value), (3, 2, 1, value, 2), (1, value, None), (2, value, 0), (1,) * 999 + (value,)):
                assert_raises_field(self, InvalidGenerator, "number", value, stack_all, 4, numbers)
            assert_raises_field(self, InvalidGenerator, "number", value, stack_all, numbers=(value, "", 0), size=4)

    def test_numbers_that_are_no_tuple(self):
        for value in no_tuples() + [[1], [], {1: 1}, {1}, range(1, 2), "1", b"\x01"]:
            for size in (0, 1, 2, 30):
                assert_raises_field(self, InvalidGenerator, "number", value, stack_all, size, value)
                assert_raises_field(self, InvalidGenerator, "number", value, stack_all, numbers=value, size=size)

    def test_stack_checks_the_upper_diagram_first(self):
        for value, index in no_diagrams():
            for other in ((), ((1, 2),), FLAT_30, None, ((1, 3),)):
                assert_raises_field(self, InvalidDiagram, "index", index, stack, value, other)
            for other in ((), ((1, 2),), FLAT_30):
                assert_raises_field(self, InvalidDiagram, "index", index, stack, other, value)
            assert_raises_field(self, InvalidDiagram, "index", index, stack, lower=None, upper=value)

    def test_stack_of_different_sizes(self):
        diagrams = [(), ((1, 2),), ((1, 4), (2, 3)), ((1, 2), (3, 4), (5, 6)), NESTED_30]
        for one, other in permutations(diagrams, 2):
            assert_raises_field(self, SizesDiffer, "sizes", (len(one), len(other)), stack, one, other)
            assert_raises_field(self, SizesDiffer, "sizes", (len(one), len(other)), stack, lower=other, upper=one)

    def test_functions_of_a_diagram(self):
        for function in (through_strands, factorization, closure_loops):
            for value, index in no_diagrams():
                assert_raises_field(self, InvalidDiagram, "index", index, function, value)
                assert_raises_field(self, InvalidDiagram, "index", index, function, diagram=value)

    def test_diagrams_that_are_too_large_to_factorize(self):
        for diagram in [*large_diagrams(), NESTED_30, FLAT_30, FLAT_30[:7], identity(7)]:
            assert_raises_field(self, TooLarge, "limit", 6, factorization, diagram)
        assert_raises_field(self, TooLarge, "limit", 6, factorization, diagram=generator(7, 3))

    def test_wrong_arguments_are_not_modified(self):
        for value in ([1], {0: [1]}, ([1, 2],), ((1, [2]),), [[1, 2]]):
            before = copy.deepcopy(value)
            self.assertRaises(InvalidSize, identity, value)
            self.assertRaises(InvalidSize, generator, value, 1)
            self.assertRaises(InvalidSize, stack_all, value, ())
            self.assertRaises(InvalidGenerator, generator, 3, value)
            self.assertRaises(InvalidGenerator, stack_all, 3, value)
            self.assertRaises(InvalidDiagram, stack, value, ())
            self.assertRaises(InvalidDiagram, stack, (), value)
            for function in (through_strands, factorization, closure_loops):
                self.assertRaises(InvalidDiagram, function, value)
            self.assertEqual(value, before)

    def test_values_of_every_kind_within_tuples(self):
        for value in no_text():
            if value.__class__ is not int or value != 1:
                assert_raises_field(self, InvalidGenerator, "number", value, stack_all, 2, (1, value))


if __name__ == "__main__":
    unittest.main()
