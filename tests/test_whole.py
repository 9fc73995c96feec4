"""What the document promises of functions of several files together, and of all functions."""

import importlib
import unittest
from itertools import combinations, product

from chordturn import errors
from chordturn.diagrams import diagram_of, is_diagram, reflect, rotate, word_of_diagram
from chordturn.expansions import add_sums, are_equivalent, check_certificate, certificate, expand, rotate_sum, sum_of
from chordturn.fixed import (
    fixed_by_remainder, fixed_count, fixed_diagrams, full_orbit, is_fixed, orbit, orbit_counts, reflection_counts,
)
from chordturn.loops import loop_count, loop_table, loops
from chordturn.matchings import crossings, is_matching, matching_count, reflect_matching, rotate_matching, uncross
from chordturn.numbering import number_of, word_at, word_count
from chordturn.partitions import (
    complement, diagram_of_partition, is_finer, join_of, meet_of, partition_of, partition_rank,
)
from chordturn.polynomials import q_catalan
from chordturn.strands import (
    closure_loops, factorization, generator, identity, stack, stack_all, through_strands,
)
from chordturn.tableaux import demote, evacuate, promote, slide_path, tableau_of, word_of
from chordturn.values import rotate_matrix, value_of, value_of_sum, witness
from chordturn.words import heights, partners, reversed_word, touch_points
from tests.support import (
    CATALAN, Plain, assert_same, diagrams_of_size, large_diagrams, no_text, no_tuples, pairings_of_size,
    partitions_of_size, rows_of, sample_diagrams, sample_partitions, sample_sums, sample_words, scattered_matching,
    small_partitions, words_of_size,
)
from tests.wrong import CROSSED_5, CROSSED_30, FLAT_30, NESTED_30


def flat(size):
    return tuple((2 * item - 1, 2 * item) for item in range(1, size + 1))


def many_times(function, times, value):
    for _ in range(times):
        value = function(value)
    return value


class Turning(unittest.TestCase):
    """Sections 6 and 7, with everything that turns."""

    def test_promotion_turns_diagrams_and_matchings_alike(self):
        for word in sample_words():
            diagram = diagram_of(word)
            self.assertIs(is_matching(diagram), True)
            assert_same(self, diagram_of(word_of(promote(tableau_of(word)))), rotate_matching(diagram))
            assert_same(self, diagram_of(word_of(demote(tableau_of(word)))), rotate_matching(diagram, steps=-1))
            assert_same(self, diagram_of(word_of(evacuate(tableau_of(word)))), reflect_matching(diagram))

    def test_fixed_tableaux_words_and_partitions(self):
        for size in range(len(CATALAN)):
            tableaux = [rows_of(word) for word in words_of_size(size)]
            for steps in range(2 * size + 1):
                fixed = [t for t in tableaux if many_times(promote, steps, t) == t]
                self.assertEqual(len(fixed), fixed_count(size, steps))
                self.assertEqual(len(fixed), fixed_by_remainder(size, steps))
                expected = tuple(sorted(diagram_of(word_of(tableau)) for tableau in fixed))
                assert_same(self, fixed_diagrams(size, steps), expected)
                partitions = [p for p in partitions_of_size(size) if many_times(complement, steps, p) == p]
                assert_same(self, tuple(sorted(map(diagram_of_partition, partitions))), expected)
            mirrors = sum(evacuate(tableau) == tableau for tableau in tableaux)
            turned_mirrors = sum(promote(evacuate(tableau)) == tableau for tableau in tableaux)
            assert_same(self, reflection_counts(size), (mirrors, turned_mirrors))

    def test_orbits_by_promotion_and_evacuation(self):
        for size in range(len(CATALAN)):
            orbits, full_orbits = set(), set()
            for word in words_of_size(size):
                tableau = rows_of(word)
                found = {many_times(promote, steps, tableau) for steps in range(2 * size + 1)}
                assert_same(self, orbit(diagram_of(word)), tuple(sorted(diagram_of(word_of(t)) for t in found)))
                both = found | {evacuate(t) for t in found}
                assert_same(self, full_orbit(diagram_of(word)), tuple(sorted(diagram_of(word_of(t)) for t in both)))
                orbits.add(min(found))
                full_orbits.add(min(both))
            assert_same(self, orbit_counts(size), (len(orbits), len(full_orbits)))

    def test_words_are_fixed_by_reversal_as_diagrams_by_reflection(self):
        for word in sample_words():
            diagram = diagram_of(word)
            self.assertEqual(reversed_word(word) == word, reflect(diagram) == diagram)
            self.assertIs(is_fixed(diagram, 2 * len(diagram)), True)

    def test_the_slide_path_turns_down_at_the_chord_of_point_1(self):
        for word in sample_words():
            if word:
                upper_cells = [cell for cell in slide_path(tableau_of(word)) if cell[0] == 0]
                _, column = upper_cells[-1]
                self.assertEqual(tableau_of(word)[1][column], partners(word)[0])

    def test_the_number_of_words_is_the_value_of_the_polynomial_at_1(self):
        for size in range(31):
            self.assertEqual(sum(q_catalan(size)), word_count(size))
            self.assertEqual(fixed_count(size, 0), word_count(size))


class Partitions(unittest.TestCase):
    """Section 8, with the loops."""

    def test_blocks_are_the_loops_with_the_flat_diagram(self):
        for partition in sample_partitions():
            diagram = diagram_of_partition(partition)
            found = loops(diagram, flat(len(diagram)))
            blocks = tuple(sorted(tuple(sorted({(point + 1) // 2 for point in loop})) for loop in found))
            assert_same(self, blocks, partition)
            self.assertEqual(partition_rank(partition), len(diagram) - loop_count(diagram, flat(len(diagram))))

    def test_blocks_of_the_complement_are_the_loops_with_the_other_flat_diagram(self):
        for partition in sample_partitions():
            diagram = diagram_of_partition(partition)
            other = rotate(flat(len(diagram)), steps=-1)
            self.assertEqual(loop_count(diagram, other), len(complement(partition)))
            if partition:
                self.assertEqual(partition_rank(partition) + partition_rank(complement(partition)), len(diagram) - 1)

    def test_two_complements_are_two_steps(self):
        for partition in sample_partitions():
            size = len(diagram_of_partition(partition))
            moved = [tuple(sorted((item - 2) % size + 1 for item in block)) for block in partition]
            assert_same(self, complement(complement(partition)), tuple(sorted(moved)))
            found = rotate(diagram_of_partition(partition), steps=2)
            assert_same(self, complement(complement(partition)), partition_of(found))

    def test_the_complement_turns_the_order_around(self):
        for size in range(5):
            for one, other in product(partitions_of_size(size), repeat=2):
                self.assertIs(is_finer(one, other), is_finer(complement(other), complement(one)))
                assert_same(self, complement(meet_of(one, other)), join_of(complement(one), complement(other)))
                assert_same(self, complement(join_of(one, other)), meet_of(complement(one), complement(other)))

    def test_closures_of_partitions(self):
        for partition in small_partitions():
            diagram = diagram_of_partition(partition)
            self.assertEqual(closure_loops(diagram), loop_count(identity(len(diagram)), diagram))


class Expansions(unittest.TestCase):
    """Sections 10 to 12, with the diagrams and the words."""

    def test_there_are_as_many_matchings_and_diagrams_as_counted(self):
        for size in range(6):
            self.assertEqual(len(pairings_of_size(size)), matching_count(size))
            self.assertEqual(sum(map(is_diagram, pairings_of_size(size))), word_count(size))

    def test_the_expansion_of_all_matchings_of_a_size(self):
        for size in range(6):
            total = {matching: 1 for matching in pairings_of_size(size)}
            found = expand(total)
            self.assertEqual(list(found), sorted(diagrams_of_size(size)))
            for steps in range(2 * size):
                assert_same(self, rotate_sum(found, steps=steps), found)
            self.assertEqual({reflect(diagram): found[diagram] for diagram in found}, found)

    def test_expanding_a_turned_sum_by_promotion(self):
        for terms in sample_sums():
            found = expand(terms)
            promoted = {}
            for diagram, coefficient in found.items():
                promoted[diagram_of(word_of(promote(tableau_of(word_of_diagram(diagram)))))] = coefficient
            self.assertEqual(expand(rotate_sum(terms)), promoted)
            found = check_certificate(rotate_sum(terms), certificate(rotate_sum(terms)))
            assert_same(self, found, expand(rotate_sum(terms)))

    def test_a_rotated_certificate_step_by_step(self):
        # Uncrossing turns with the matching, so the rotated sum has the rotated steps as a certificate.
        for terms in sample_sums():
            size = len(next(iter(terms), ()))
            steps = []
            for matching, crossing in certificate(terms):
                turned_crossing = tuple(sorted((point - 2) % (2 * size) + 1 for point in crossing))
                steps.append((rotate_matching(matching), turned_crossing))
            assert_same(self, check_certificate(rotate_sum(terms), tuple(steps)), rotate_sum(expand(terms)))

    def test_different_diagrams_are_told_apart(self):
        for size in range(5):
            for one, other in combinations(diagrams_of_size(size), 2):
                self.assertIs(are_equivalent(sum_of(one), sum_of(other)), False)
                matrix = witness(sum_of(one), sum_of(other))
                self.assertNotEqual(value_of(one, matrix), value_of(other, matrix))
                self.assertEqual(value_of_sum(sum_of(one), matrix), value_of(one, matrix))

    def test_the_value_of_a_sum_turns_with_it(self):
        for terms in sample_sums():
            if terms and expand(terms):
                matrix = witness(terms, {})
                value = value_of_sum(terms, matrix)
                self.assertNotEqual(value, 0)
                self.assertEqual(value_of_sum(rotate_sum(terms), rotate_matrix(matrix)), value)
                self.assertEqual(value_of_sum(rotate_sum(expand(terms)), rotate_matrix(matrix)), value)

    def test_large_matchings_uncross_into_diagrams(self):
        for size, number in product((12, 30), range(3)):
            matching = scattered_matching(size, number)
            while crossings(matching):
                found = crossings(matching)
                matching = uncross(matching, found[len(found) // 2])[len(found) % 2]
                self.assertLess(len(crossings(matching)), len(found))
            self.assertIs(is_diagram(matching), True)


class Strands(unittest.TestCase):
    """Section 16, with the words, the loops, and the expansions."""

    def test_through_strands_are_the_height_in_the_middle(self):
        for diagram in sample_diagrams():
            word = word_of_diagram(diagram)
            self.assertEqual(through_strands(diagram), heights(word)[len(diagram)])
            self.assertEqual(through_strands(diagram) == 0, diagram == () or len(diagram) in touch_points(word))

    def test_reflecting_a_factorization(self):
        for size in range(6):
            for diagram in diagrams_of_size(size):
                numbers = factorization(diagram)
                assert_same(self, stack_all(size, numbers), (diagram, 0))
                assert_same(self, stack_all(size, numbers[::-1]), (reflect(diagram), 0))
                evacuated = diagram_of(word_of(evacuate(tableau_of(word_of_diagram(diagram)))))
                assert_same(self, stack_all(size, numbers[::-1]), (evacuated, 0))

    def test_tables_of_closures(self):
        for size in range(6):
            diagrams = diagrams_of_size(size)
            table = loop_table(size)
            for a, b in product(range(len(diagrams)), repeat=2):
                found, removed = stack(diagrams[a], reflect(diagrams[b]))
                self.assertEqual(table[a][b], closure_loops(found) + removed)

    def test_a_crossing_is_the_identity_and_a_generator(self):
        for size in range(2, 6):
            for number in range(1, size):
                chords = dict(identity(size))
                chords[number], chords[number + 1] = chords[number + 1], chords[number]
                matching = tuple(chords.items())
                (crossing,) = crossings(matching)
                assert_same(self, uncross(matching, crossing), (generator(size, number), identity(size)))
                expected = add_sums(sum_of(identity(size)), sum_of(generator(size, number)))
                assert_same(self, expand(sum_of(matching)), expected)

    def test_stacks_of_large_diagrams_are_associative(self):
        diagrams = [diagram for diagram in large_diagrams() if len(diagram) == 30] + [FLAT_30, NESTED_30]
        for first, second, third in zip(diagrams, diagrams[1:], diagrams[2:]):
            left, removed = stack(first, second)
            right, removed_below = stack(second, third)
            one, more = stack(left, third)
            other, more_above = stack(first, right)
            assert_same(self, (one, removed + more), (other, removed_below + more_above))

    def test_every_diagram_by_its_number_is_a_stack(self):
        for number in range(word_count(5)):
            diagram = diagram_of(word_at(5, number))
            found, removed = stack_all(5, factorization(diagram))
            self.assertEqual((number_of(word_of_diagram(found)), removed), (number, 0))


DIAGRAM, SUM = ((1, 2), (3, 4)), {((1, 3), (2, 4)): 1}

# For each function: valid arguments, the names of those that may be of any kind, and its errors.
CALLS = {
    "words": [
        ("validate_word", {"word": "UD"}, "word", "InvalidWord"),
        ("is_word", {"value": "UD"}, "value", ""),
        ("size_of", {"word": "UD"}, "word", "InvalidWord"),
        ("partner", {"word": "UD", "point": 1}, "word point", "InvalidWord InvalidPoint"),
        ("partners", {"word": "UD"}, "word", "InvalidWord"),
        ("heights", {"word": "UD"}, "word", "InvalidWord"),
        ("touch_points", {"word": "UD"}, "word", "InvalidWord"),
        ("first_parts", {"word": "UD"}, "word", "InvalidWord EmptyWord"),
        ("from_parts", {"inner": "UD", "rest": "UD"}, "inner rest", "InvalidWord InvalidSize"),
        ("reversed_word", {"word": "UD"}, "word", "InvalidWord"),
    ],
    "tableaux": [
        ("validate_tableau", {"tableau": ((1,), (2,))}, "tableau", "InvalidTableau"),
        ("is_tableau", {"value": ((1,), (2,))}, "value", ""),
        ("tableau_of", {"word": "UD"}, "word", "InvalidWord"),
        ("word_of", {"tableau": ((1,), (2,))}, "tableau", "InvalidTableau"),
        ("slide_path", {"tableau": ((1,), (2,))}, "tableau", "InvalidTableau"),
        ("promote", {"tableau": ((1,), (2,))}, "tableau", "InvalidTableau"),
        ("demote", {"tableau": ((1,), (2,))}, "tableau", "InvalidTableau"),
        ("freed_cells", {"tableau": ((1,), (2,))}, "tableau", "InvalidTableau"),
        ("evacuate", {"tableau": ((1,), (2,))}, "tableau", "InvalidTableau"),
    ],
    "diagrams": [
        ("validate_diagram", {"diagram": DIAGRAM}, "diagram", "InvalidDiagram"),
        ("is_diagram", {"value": DIAGRAM}, "value", ""),
        ("diagram_of", {"word": "UD"}, "word", "InvalidWord"),
        ("word_of_diagram", {"diagram": DIAGRAM}, "diagram", "InvalidDiagram"),
        ("joined_to", {"diagram": DIAGRAM, "point": 1}, "diagram point", "InvalidDiagram InvalidPoint"),
        ("depths", {"diagram": DIAGRAM}, "diagram", "InvalidDiagram"),
        ("short_chords", {"diagram": DIAGRAM}, "diagram", "InvalidDiagram"),
        ("rotate", {"diagram": DIAGRAM, "steps": 1}, "diagram steps", "InvalidDiagram InvalidSteps"),
        ("reflect", {"diagram": DIAGRAM}, "diagram", "InvalidDiagram"),
    ],
    "partitions": [
        ("validate_partition", {"partition": ((1, 2),)}, "partition", "InvalidPartition"),
        ("is_partition", {"value": ((1, 2),)}, "value", ""),
        ("diagram_of_partition", {"partition": ((1, 2),)}, "partition", "InvalidPartition"),
        ("partition_of", {"diagram": DIAGRAM}, "diagram", "InvalidDiagram"),
        ("complement", {"partition": ((1, 2),)}, "partition", "InvalidPartition"),
        ("block_of", {"partition": ((1, 2),), "item": 1}, "partition item", "InvalidPartition InvalidPoint"),
        ("is_finer", {"one": ((1, 2),), "other": ((1, 2),)}, "one other", "InvalidPartition SizesDiffer"),
        ("meet_of", {"one": ((1, 2),), "other": ((1, 2),)}, "one other", "InvalidPartition SizesDiffer"),
        ("join_of", {"one": ((1, 2),), "other": ((1, 2),)}, "one other", "InvalidPartition SizesDiffer"),
        ("partition_rank", {"partition": ((1, 2),)}, "partition", "InvalidPartition"),
    ],
    "numbering": [
        ("word_count", {"size": 1}, "size", "InvalidSize"),
        ("completion_count", {"height": 1, "length": 1}, "height length", "InvalidSize"),
        ("word_at", {"size": 1, "number": 0}, "size number", "InvalidSize InvalidNumber"),
        ("number_of", {"word": "UD"}, "word", "InvalidWord"),
        ("next_word", {"word": "UD"}, "word", "InvalidWord"),
        ("previous_word", {"word": "UD"}, "word", "InvalidWord"),
    ],
    "matchings": [
        ("validate_matching", {"matching": DIAGRAM}, "matching", "InvalidMatching"),
        ("is_matching", {"value": DIAGRAM}, "value", ""),
        ("crossings", {"matching": DIAGRAM}, "matching", "InvalidMatching"),
        ("uncross", {"matching": ((1, 3), (2, 4)), "crossing": (1, 2, 3, 4)}, "matching crossing",
         "InvalidMatching InvalidCrossing"),
        ("rotate_matching", {"matching": DIAGRAM, "steps": 1}, "matching steps", "InvalidMatching InvalidSteps"),
        ("reflect_matching", {"matching": DIAGRAM}, "matching", "InvalidMatching"),
        ("matching_count", {"size": 1}, "size", "InvalidSize"),
    ],
    "expansions": [
        ("validate_sum", {"terms": SUM}, "terms", "InvalidSum"),
        ("sum_of", {"matching": DIAGRAM}, "matching", "InvalidMatching TooLarge"),
        ("add_sums", {"terms": SUM, "others": SUM}, "terms others", "InvalidSum SizesDiffer"),
        ("rotate_sum", {"terms": SUM, "steps": 1}, "terms steps", "InvalidSum InvalidSteps"),
        ("replace", {"terms": SUM, "matching": ((1, 3), (2, 4)), "crossing": (1, 2, 3, 4)}, "terms matching crossing",
         "InvalidSum InvalidMatching InvalidCrossing MissingTerm"),
        ("expand", {"terms": SUM}, "terms", "InvalidSum"),
        ("are_equivalent", {"terms": SUM, "others": SUM}, "terms others", "InvalidSum SizesDiffer"),
        ("certificate", {"terms": SUM}, "terms", "InvalidSum"),
        ("check_certificate", {"terms": SUM, "value": ((((1, 3), (2, 4)), (1, 2, 3, 4)),)}, "terms value",
         "InvalidSum InvalidCertificate"),
    ],
    "values": [
        ("value_of", {"matching": ((1, 2),), "matrix": ((1, 0), (0, 1))}, "matching matrix",
         "InvalidMatching InvalidMatrix"),
        ("value_of_sum", {"terms": {((1, 2),): 1}, "matrix": ((1, 0), (0, 1))}, "terms matrix",
         "InvalidSum InvalidMatrix"),
        ("rotate_matrix", {"matrix": ((1, 0), (0, 1))}, "matrix", "InvalidMatrix"),
        ("witness", {"terms": SUM, "others": {}}, "terms others", "InvalidSum SizesDiffer Equivalent"),
    ],
    "polynomials": [
        ("validate_polynomial", {"polynomial": (1,)}, "polynomial", "InvalidPolynomial"),
        ("multiply", {"polynomial": (1,), "factor": (1,)}, "polynomial factor", "InvalidPolynomial"),
        ("divide", {"polynomial": (1,), "divisor": (1,)}, "polynomial divisor", "InvalidPolynomial"),
        ("q_catalan", {"size": 1}, "size", "InvalidSize"),
        ("cyclotomic", {"order": 1}, "order", "InvalidSize"),
    ],
    "fixed": [
        ("order_of", {"size": 1, "steps": 1}, "size steps", "InvalidSize InvalidSteps"),
        ("is_fixed", {"diagram": DIAGRAM, "steps": 1}, "diagram steps", "InvalidDiagram InvalidSteps"),
        ("fixed_count", {"size": 1, "steps": 1}, "size steps", "InvalidSize InvalidSteps"),
        ("fixed_by_remainder", {"size": 1, "steps": 1}, "size steps", "InvalidSize InvalidSteps"),
        ("fixed_diagrams", {"size": 1, "steps": 1}, "size steps", "InvalidSize InvalidSteps TooLarge"),
        ("reflection_counts", {"size": 1}, "size", "InvalidSize"),
        ("orbit", {"diagram": DIAGRAM}, "diagram", "InvalidDiagram"),
        ("full_orbit", {"diagram": DIAGRAM}, "diagram", "InvalidDiagram"),
        ("orbit_counts", {"size": 1}, "size", "InvalidSize"),
    ],
    "loops": [
        ("loops", {"inner": DIAGRAM, "outer": DIAGRAM}, "inner outer", "InvalidDiagram SizesDiffer"),
        ("loop_count", {"inner": DIAGRAM, "outer": DIAGRAM}, "inner outer", "InvalidDiagram SizesDiffer"),
        ("loop_table", {"size": 1}, "size", "InvalidSize TooLarge"),
    ],
    "strands": [
        ("identity", {"size": 1}, "size", "InvalidSize"),
        ("generator", {"size": 2, "number": 1}, "size number", "InvalidSize InvalidGenerator"),
        ("stack", {"upper": DIAGRAM, "lower": DIAGRAM}, "upper lower", "InvalidDiagram SizesDiffer"),
        ("stack_all", {"size": 2, "numbers": (1,)}, "size numbers", "InvalidSize InvalidGenerator"),
        ("through_strands", {"diagram": DIAGRAM}, "diagram", "InvalidDiagram"),
        ("factorization", {"diagram": DIAGRAM}, "diagram", "InvalidDiagram TooLarge"),
        ("closure_loops", {"diagram": DIAGRAM}, "diagram", "InvalidDiagram"),
    ],
}

# The errors whose field is the argument itself.
FIELDS_OF_VALUES = (
    "InvalidSize", "InvalidPoint", "InvalidSteps", "InvalidNumber", "InvalidCrossing", "InvalidGenerator",
)


def values_of_every_kind():
    """Valid arguments of all functions, and values of every kind, plain and inside tuples, lists and dicts."""
    values = no_text() + no_tuples()
    for calls in CALLS.values():
        for _, arguments, _, _ in calls:
            values += list(arguments.values())
    values += ["", "UD", "UUDD", "UUDUDD", 2, 3, 6, 30, 31, 60, 500, 501, -1, CROSSED_30, FLAT_30, NESTED_30, CROSSED_5]
    values += [((1, 2), (3, 4), (5, 6)), ((), ()), ((1, 3), (2, 4)), {((1, 2),): 1, (): 1}, (1, 2, 3, 4), [1], (True,)]
    values += [((True, 2),), (((1, 3), (2, 4)), (True, 2, 3, 4)), {((True, 2),): 1}, {((1, 2),): True}, Plain()]
    return values + [(value,) for value in values] + [[value] for value in values] + [{1: value} for value in values]


class EveryKind(unittest.TestCase):
    def test_every_function_is_listed(self):
        for name, calls in CALLS.items():
            module = importlib.import_module("chordturn." + name)
            for function, arguments, _, _ in calls:
                found = getattr(module, function)
                self.assertEqual(found.__module__, module.__name__)
                found(**arguments)

    def test_no_argument_leads_to_another_error(self):
        values = values_of_every_kind()
        for name, calls in CALLS.items():
            module = importlib.import_module("chordturn." + name)
            for function, arguments, open_names, error_names in calls:
                for parameter in open_names.split():
                    for value in values:
                        self.check(getattr(module, function), {**arguments, parameter: value}, parameter, error_names)

    def check(self, function, arguments, parameter, error_names):
        try:
            function(**arguments)
        except (errors.ChordError, errors.ChordStateError, errors.ChordLookupError) as error:
            name = error.__class__.__name__
            self.assertIn(name, error_names.split(), function)
            if name in FIELDS_OF_VALUES and function.__name__ not in ("from_parts", "stack_all"):
                self.assertEqual(len(vars(error)), 1)
                (held,) = vars(error).values()
                self.assertTrue(any(held is value for value in arguments.values()), function)

    def test_the_functions_that_ask_answer_true_or_false(self):
        for function in ("words.is_word", "tableaux.is_tableau", "diagrams.is_diagram", "partitions.is_partition",
                         "matchings.is_matching"):
            module, name = function.split(".")
            ask = getattr(importlib.import_module("chordturn." + module), name)
            for value in values_of_every_kind():
                self.assertIn(ask(value), (True, False))
                self.assertIs(ask(value).__class__, bool)


if __name__ == "__main__":
    unittest.main()
