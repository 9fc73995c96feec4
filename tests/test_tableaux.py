import copy
import unittest
from itertools import combinations, product

from chordturn.errors import InvalidTableau, InvalidWord
from chordturn.tableaux import (
    demote, evacuate, freed_cells, is_tableau, promote, slide_path, tableau_of, validate_tableau, word_of,
)
from tests.support import (
    CATALAN, Plain, Refusing, assert_raises_field, joined_by_definition, large_words, no_points, no_text, rows_of,
    sample_words, small_words, words_of_size,
)

LONG_UPPER = tuple(range(1, 32))
LONG_LOWER = tuple(range(32, 63))

# Values that are no pairs of rows.
NO_ROWS = [
    (), ((),), ((), (), ()), ((1,), (2,), ()), [(), ()], ((), []), ([], ()), ([], []), ("", ""), (b"", b""), ({}, {}),
    (set(), set()), (None, None), (0, 0), (1, 2), (True, False), ((), None), (None, ()), ((), ""), ("", ()),
    ((1,), ()), ((), (2,)), ((1, 2), (3,)), ((1,), (2, 3)), ([1], [2]), ((1,), [2]), ([1], (2,)), [(1,), (2,)],
    [[1], [2]], {(1,): (2,)}, {(1,), (2,)}, (((),), ()), ((1,), {2}), ((1,), {2: 2}), ((1,), range(2, 3)), "12", "UD",
    ((1,), 2), (1, (2,)), ((1,), "2"), ("1", (2,)), (Refusing(), Refusing()), ((), Plain()),
    (LONG_UPPER, LONG_LOWER), (tuple(range(1, 63, 2)), tuple(range(2, 64, 2))), ((None,) * 31, (None,) * 31),
    ((0,) * 31, ()), ((), (0,) * 31), ((True,) * 50000, (True,) * 49000), ((0,) * 49999, (0,) * 49999),
]

# Pairs of rows of the same length that are no tableaux, with the place of the first violation.
NO_TABLEAUX = [
    (((1, 3), (2, 3)), (1, 1)),
    (((1, 2, 4), (3, 5, 5)), (1, 2)), (((1, 1), (2, 3)), (0, 1)), (((2, 1), (3, 4)), (0, 1)),
    (((1, 2), (4, 3)), (1, 1)),
    (((0,), (1,)), (0, 0)), (((-1,), (2,)), (0, 0)), (((3,), (2,)), (0, 0)), (((2,), (1,)), (1, 0)),
    (((1,), (1,)), (1, 0)), (((1,), (3,)), (1, 0)), (((1,), (0,)), (1, 0)), (((1,), (-2,)), (1, 0)),
    (((1, 2), (2, 4)), (1, 0)), (((1, 4), (2, 3)), (1, 1)), (((2, 3), (1, 4)), (1, 0)), (((1, 5), (3, 4)), (0, 1)),
    (((1, 2), (3, 5)), (1, 1)), (((1, 2, 3), (4, 5, 7)), (1, 2)), (((1, 2, 7), (3, 4, 5)), (0, 2)),
    (((1, 0), (0, 0)), (0, 1)), (((1, 2), (0, 0)), (1, 0)), (((0, 0), (0, 0)), (0, 0)), (((1, 3), (4, 4)), (1, 1)),
    (((1, 3), (4, 2)), (1, 1)), (((1, 4, 5), (2, 3, 6)), (1, 1)), (((1, 2, 6), (3, 4, 5)), (1, 2)),
    (((1, 61), (2, 3)), (0, 1)), (((10 ** 999,), (2,)), (0, 0)), (((1,), (10 ** 999,)), (1, 0)),
    (((1, -(10 ** 999)), (2, 3)), (0, 1)),
    (((1, 2), (None, "x")), (1, 0)), (((1, None), (None, 3)), (0, 1)), ((("x", 2), (None, 3)), (0, 0)),
    (((True,), (2,)), (0, 0)), (((1,), (True,)), (1, 0)), (((False,), (True,)), (0, 0)), (((True, 2), (3, 4)), (0, 0)),
    (((1, True), (3, 4)), (0, 1)), (((1, 2), (3, True)), (1, 1)), (((1, 2), (True, 4)), (1, 0)),
    ((tuple(range(1, 30)) + (30,), tuple(range(31, 60)) + (61,)), (1, 29)),
    ((tuple(range(1, 30)) + (61,), tuple(range(31, 61))), (0, 29)),
    ((tuple(range(1, 30)) + (None,), (None,) * 30), (0, 29)),
]


def no_tableaux():
    """Values of every kind that are no tableaux, with their places."""
    values = [(value, None) for value in no_text() + NO_ROWS] + NO_TABLEAUX
    for entry in no_points(1):
        values.append((((entry,), (2,)), (0, 0)))
        values.append((((1,), (entry,)), (1, 0)))
    for entry in no_points(2):
        values.append((((1, entry), (3, 4)), (0, 1)))
        values.append((((1, entry), (entry, 4)), (0, 1)))
        values.append((((1, 2), (3, entry)), (1, 1)))
        values.append((((1, 2), (entry, 4)), (1, 0)))
    return values


def is_point_of(value, size):
    return value.__class__ is int and value in range(1, 2 * size + 1)


def first_wrong_place(upper, lower):
    """The place that 4.4 asks for in two rows of the same length, or "valid"."""
    size = len(upper)
    for column in range(size):
        if not is_point_of(upper[column], size):
            return 0, column
        if column > 0 and not upper[column - 1] < upper[column]:
            return 0, column
    for column in range(size):
        if not is_point_of(lower[column], size) or lower[column] in upper:
            return 1, column
        if column > 0 and not lower[column - 1] < lower[column]:
            return 1, column
        if not upper[column] < lower[column]:
            return 1, column
    return "valid"


def slid(rows):
    """6.1 on two lists in which None stands for a cell without an entry: the path of the hole."""
    size = len(rows[0])
    row, column = 0, 0
    rows[0][0] = None
    path = [(0, 0)]
    while True:
        right = rows[row][column + 1] if column + 1 < size else None
        below = rows[1][column] if row == 0 else None
        if right is None and below is None:
            return path
        if below is None or (right is not None and right < below):
            rows[row][column], column = right, column + 1
        else:
            rows[row][column], row = below, 1
        rows[row][column] = None
        path.append((row, column))


def promoted_by_definition(tableau):
    """6.2 for a tableau that is not empty."""
    rows = [list(row) for row in tableau]
    path = slid(rows)
    rows = [[None if entry is None else entry - 1 for entry in row] for row in rows]
    row, column = path[-1]
    rows[row][column] = 2 * len(rows[0])
    return tuple(tuple(row) for row in rows)


def sample_tableaux():
    return [rows_of(word) for word in sample_words()]


class Validation(unittest.TestCase):
    def check(self, value, expected):
        if expected == "valid":
            self.assertIsNone(validate_tableau(value))
            self.assertIs(is_tableau(value), True)
        else:
            assert_raises_field(self, InvalidTableau, "place", expected, validate_tableau, value)
            self.assertIs(is_tableau(value), False)

    def test_the_examples_of_the_interface(self):
        self.check(((1, 3), (2, 3)), (1, 1))
        self.check(((1, 2, 4), (3, 5, 6)), "valid")

    def test_the_tableaux_of_all_sample_words(self):
        for word in sample_words():
            self.check(rows_of(word), "valid")

    def test_the_number_of_tableaux_of_each_small_size(self):
        for size in range(5):
            rows = list(combinations(range(1, 2 * size + 1), size))
            self.assertEqual(sum(is_tableau(pair) for pair in product(rows, rows)), CATALAN[size])

    def test_all_pairs_of_rows_of_sizes_1_and_2(self):
        entries = (-1, 0, 1, 2, 3, 4, 5, True, False, None)
        for size in (1, 2):
            rows = list(product(entries, repeat=size))
            for upper, lower in product(rows, rows):
                self.check((upper, lower), first_wrong_place(upper, lower))

    def test_all_pairs_of_rows_of_points_of_size_3(self):
        rows = list(product(range(1, 7), repeat=3))
        for upper, lower in product(rows, rows):
            if first_wrong_place(upper, (0, 0, 0)) == (1, 0) or lower == (4, 5, 6):
                self.check((upper, lower), first_wrong_place(upper, lower))

    def test_one_entry_changed_in_large_tableaux(self):
        for word in large_words()[:6]:
            upper, lower = rows_of(word)
            for column in range(len(upper)):
                for entry in (0, 1, 2, 30, 31, 59, 60, 61, True, None):
                    changed = (*upper[:column], entry, *upper[column + 1:])
                    self.check((changed, lower), first_wrong_place(changed, lower))
                    changed = (*lower[:column], entry, *lower[column + 1:])
                    self.check((upper, changed), first_wrong_place(upper, changed))

    def test_size_0_and_the_sizes_around_the_limit(self):
        self.check(((), ()), "valid")
        self.check((tuple(range(1, 31)), tuple(range(31, 61))), "valid")
        self.check((tuple(range(1, 61, 2)), tuple(range(2, 62, 2))), "valid")
        self.check((LONG_UPPER, LONG_LOWER), None)
        self.check((tuple(range(1, 63, 2)), tuple(range(2, 64, 2))), None)

    def test_listed_values_and_values_of_other_kinds(self):
        for value, place in no_tableaux():
            self.check(value, place)

    def test_the_parameters_may_be_passed_by_name(self):
        self.assertIsNone(validate_tableau(tableau=((1,), (2,))))
        self.assertIs(is_tableau(value=((1,), (2,))), True)
        assert_raises_field(self, InvalidTableau, "place", (1, 0), validate_tableau, tableau=((1,), (1,)))


class Faults(unittest.TestCase):
    """The errors of all functions but is_tableau, which has none."""

    functions = [validate_tableau, word_of, slide_path, promote, demote, freed_cells, evacuate]

    def test_a_wrong_tableau(self):
        for function in self.functions:
            for value, place in no_tableaux():
                assert_raises_field(self, InvalidTableau, "place", place, function, value)
                assert_raises_field(self, InvalidTableau, "place", place, function, tableau=value)

    def test_a_wrong_word(self):
        texts = [("D", 0), ("UDD", 2), ("UUD", 3), ("UxD", 1), ("UD ", 2), ("U" * 60, 60), ("U" * 61, None)]
        texts += [("UD" * 30 + "D", None), ("UD" * 31, None)]
        for value, position in texts + [(value, None) for value in no_text() + [((1,), (2,)), ((), ())]]:
            assert_raises_field(self, InvalidWord, "position", position, tableau_of, value)
            assert_raises_field(self, InvalidWord, "position", position, tableau_of, word=value)

    def test_wrong_arguments_are_not_modified(self):
        for value in ([[1], [2]], ([1], [2]), ((1,), [2]), ((1, [2]), (3, 4)), ((1,), ({2: [3]},)), {1: [2]}):
            before = copy.deepcopy(value)
            self.assertIs(is_tableau(value), False)
            for function in self.functions:
                self.assertRaises(InvalidTableau, function, value)
            self.assertEqual(value, before)


class Tables(unittest.TestCase):
    def test_the_examples_of_the_interface(self):
        self.assertEqual(tableau_of("UUDUDD"), ((1, 2, 4), (3, 5, 6)))
        self.assertEqual(word_of(((1, 2, 4), (3, 5, 6))), "UUDUDD")
        self.assertEqual(tableau_of(word="UD"), ((1,), (2,)))
        self.assertEqual(word_of(tableau=((1,), (2,))), "UD")

    def test_size_0(self):
        self.assertEqual(tableau_of(""), ((), ()))
        self.assertEqual(word_of(((), ())), "")

    def test_each_restores_what_the_other_one_was_given(self):
        for word in sample_words():
            tableau = tableau_of(word)
            self.assertEqual(tableau, rows_of(word))
            self.assertEqual([part.__class__ for part in (tableau, *tableau)], [tuple] * 3)
            self.assertTrue(is_tableau(tableau))
            self.assertEqual(word_of(tableau), word)
            self.assertEqual(tableau_of(word_of(tableau)), tableau)

    def test_all_tableaux_of_small_sizes_come_from_words(self):
        for size in range(5):
            rows = list(combinations(range(1, 2 * size + 1), size))
            found = [pair for pair in product(rows, rows) if first_wrong_place(*pair) == "valid"]
            self.assertEqual(sorted(found), sorted(tableau_of(word) for word in words_of_size(size)))


class Slides(unittest.TestCase):
    def test_the_example_of_the_interface(self):
        self.assertEqual(slide_path(((1, 2, 4), (3, 5, 6))), ((0, 0), (0, 1), (0, 2), (1, 2)))

    def test_small_sizes(self):
        self.assertEqual(slide_path(((), ())), ())
        self.assertEqual(slide_path(((1,), (2,))), ((0, 0), (1, 0)))
        self.assertEqual(slide_path(((1, 2), (3, 4))), ((0, 0), (0, 1), (1, 1)))
        self.assertEqual(slide_path(((1, 3), (2, 4))), ((0, 0), (1, 0), (1, 1)))
        self.assertEqual(slide_path(tableau=((1, 2, 5), (3, 4, 6))), ((0, 0), (0, 1), (1, 1), (1, 2)))

    def test_the_definition(self):
        for tableau in sample_tableaux():
            if tableau[0]:
                path = slide_path(tableau)
                self.assertEqual(path, tuple(slid([list(row) for row in tableau])))
                self.assertEqual([item.__class__ for item in (path, *path)], [tuple] * (len(path) + 1))
                self.assertEqual(path[-1], (1, len(tableau[0]) - 1))

    def test_the_hole_goes_down_at_the_partner_of_the_first_letter(self):
        for word in sample_words():
            if word:
                tableau = rows_of(word)
                turn = tableau[1].index(joined_by_definition(word)[0])
                expected = [(0, column) for column in range(turn + 1)]
                expected += [(1, column) for column in range(turn, len(word) // 2)]
                self.assertEqual(slide_path(tableau), tuple(expected))


class Promotion(unittest.TestCase):
    def test_the_examples_of_the_interface(self):
        self.assertEqual(promote(((1, 2, 4), (3, 5, 6))), ((1, 3, 5), (2, 4, 6)))
        self.assertEqual(demote(((1, 3, 5), (2, 4, 6))), ((1, 2, 4), (3, 5, 6)))

    def test_small_sizes(self):
        for turn in (promote, demote):
            self.assertEqual(turn(((), ())), ((), ()))
            self.assertEqual(turn(((1,), (2,))), ((1,), (2,)))
            self.assertEqual(turn(((1, 2), (3, 4))), ((1, 3), (2, 4)))
            self.assertEqual(turn(tableau=((1, 3), (2, 4))), ((1, 2), (3, 4)))
        self.assertEqual(promote(((1, 2, 3), (4, 5, 6))), ((1, 2, 5), (3, 4, 6)))
        self.assertEqual(demote(((1, 2, 3), (4, 5, 6))), ((1, 3, 4), (2, 5, 6)))

    def test_the_definition(self):
        for tableau in sample_tableaux():
            if tableau[0]:
                expected = promoted_by_definition(tableau)
                self.assertEqual(promote(tableau), expected)
                self.assertEqual(demote(expected), tableau)

    def test_the_kinds_of_the_results(self):
        for tableau in sample_tableaux():
            for result in (promote(tableau), demote(tableau), evacuate(tableau)):
                self.assertIs(is_tableau(result), True)
                self.assertEqual([part.__class__ for part in (result, *result)], [tuple] * 3)

    def test_the_words(self):
        for word in sample_words():
            if word:
                closer = joined_by_definition(word)[0]
                inner, rest = word[1:closer - 1], word[closer:]
                promoted = rows_of(inner + "U" + rest + "D")
                self.assertEqual(promote(rows_of(word)), promoted)
                self.assertEqual(demote(promoted), rows_of(word))

    def test_demotion_is_the_inverse_on_both_sides(self):
        for tableau in sample_tableaux():
            self.assertEqual(demote(promote(tableau)), tableau)
            self.assertEqual(promote(demote(tableau)), tableau)

    def test_promotion_permutes_the_tableaux_of_a_size(self):
        for size in range(7):
            tableaux = sorted(rows_of(word) for word in words_of_size(size))
            self.assertEqual(sorted(promote(tableau) for tableau in tableaux), tableaux)
            self.assertEqual(sorted(demote(tableau) for tableau in tableaux), tableaux)


class Evacuation(unittest.TestCase):
    def test_the_examples_of_the_interface(self):
        self.assertEqual(freed_cells(((1, 2), (3, 4))), ((1, 1), (1, 0), (0, 1), (0, 0)))
        self.assertEqual(evacuate(((1, 2, 5), (3, 4, 6))), ((1, 3, 4), (2, 5, 6)))

    def test_small_sizes(self):
        self.assertEqual(freed_cells(((), ())), ())
        self.assertEqual(evacuate(((), ())), ((), ()))
        self.assertEqual(freed_cells(((1,), (2,))), ((1, 0), (0, 0)))
        self.assertEqual(evacuate(((1,), (2,))), ((1,), (2,)))
        self.assertEqual(freed_cells(tableau=((1, 3), (2, 4))), ((1, 1), (0, 1), (1, 0), (0, 0)))
        self.assertEqual(evacuate(tableau=((1, 3), (2, 4))), ((1, 3), (2, 4)))

    def test_the_definition(self):
        for tableau in sample_tableaux():
            rows = [list(row) for row in tableau]
            freed = []
            for _ in range(2 * len(rows[0])):
                entries = [entry for row in rows for entry in row if entry is not None]
                self.assertEqual(min(entries), rows[0][0])
                freed.append(slid(rows)[-1])
            cells = freed_cells(tableau)
            self.assertEqual(cells, tuple(freed))
            self.assertEqual([item.__class__ for item in (cells, *cells)], [tuple] * (len(cells) + 1))
            evacuated = evacuate(tableau)
            for index, (row, column) in enumerate(freed):
                self.assertEqual(evacuated[row][column], len(freed) - index)

    def test_every_cell_is_freed_once(self):
        for tableau in sample_tableaux():
            cells = [(row, column) for row in (0, 1) for column in range(len(tableau[0]))]
            self.assertEqual(sorted(freed_cells(tableau)), cells)

    def test_the_rows_of_the_freed_cells_follow_the_word(self):
        for word in sample_words():
            rows = [row for row, _ in freed_cells(rows_of(word))]
            self.assertEqual(rows, [1 if letter == "U" else 0 for letter in word])

    def test_evacuation_reverses_the_word(self):
        for word in sample_words():
            turned = "".join({"U": "D", "D": "U"}[letter] for letter in word[::-1])
            self.assertEqual(evacuate(rows_of(word)), rows_of(turned))

    def test_evacuating_twice_restores_the_tableau(self):
        for tableau in sample_tableaux():
            self.assertEqual(evacuate(evacuate(tableau)), tableau)


class Together(unittest.TestCase):
    def turned(self, turn, tableau, times):
        for _ in range(times):
            tableau = turn(tableau)
        return tableau

    def test_2_n_promotions_restore_every_tableau(self):
        for tableau in sample_tableaux():
            times = 2 * len(tableau[0])
            self.assertEqual(self.turned(promote, tableau, times), tableau)
            self.assertEqual(self.turned(demote, tableau, times), tableau)

    def test_an_orbit_of_full_length(self):
        start = tableau = rows_of("UUDUDDUUDD")
        seen = [tableau]
        for _ in range(9):
            tableau = promote(tableau)
            seen.append(tableau)
        self.assertEqual(len(set(seen)), 10)
        self.assertEqual(promote(tableau), start)

    def test_demotions_take_promotions_back(self):
        for word in [*small_words()[:65], *large_words()]:
            tableau = rows_of(word)
            for times in (2, 3, 7):
                there = self.turned(promote, tableau, times)
                self.assertEqual(self.turned(demote, there, times), tableau)

    def test_evacuating_promoting_and_evacuating_is_demoting(self):
        for tableau in sample_tableaux():
            self.assertEqual(evacuate(promote(evacuate(tableau))), demote(tableau))
            self.assertEqual(evacuate(demote(evacuate(tableau))), promote(tableau))


if __name__ == "__main__":
    unittest.main()
