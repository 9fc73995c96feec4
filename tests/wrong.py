"""Values of every kind that are no diagrams, no matchings, no sums, and so on, with what their errors report."""

from tests.support import Plain, Refusing, chords_cross, no_integers, no_points, no_text, no_tuples

NESTED_30 = tuple((point, 61 - point) for point in range(1, 31))
FLAT_30 = tuple((point, point + 1) for point in range(1, 60, 2))
NESTED_31 = tuple((point, 63 - point) for point in range(1, 32))
FLAT_31 = tuple((point, point + 1) for point in range(1, 62, 2))
FLAT_5 = FLAT_30[:5]
FLAT_6 = FLAT_30[:6]
CROSSED_5 = tuple((point, point + 5) for point in range(1, 6))
CROSSED_6 = tuple((point, point + 6) for point in range(1, 7))
CROSSED_30 = tuple((point, point + 30) for point in range(1, 31))
CROSSED_31 = tuple((point, point + 31) for point in range(1, 32))

# Tuples that are no diagrams, with the index of the first violation.
WRONG_TUPLES = [
    (((1, 3), (2, 4)), 1), (((1, 2), (2, 3)), 1), (((1, 2), (1, 4)), 1), (((1, 2), (1, 2)), 1),
    (((1, 2),) * 30, 1), (((3, 4), (1, 2)), 1), (((2, 3), (1, 4)), 1), (((2, 1),), 0), (((1, 1),), 0),
    (((0, 1),), 0), (((1, 3),), 0), (((2, 3),), 0), (((-1, 2),), 0), (((1, 10 ** 999),), 0), (((-(10 ** 999), 2),), 0),
    (((1, 2), (4, 3)), 1), (((1, 2), (3, 5)), 1), (((1, 4), (2, 4)), 1), (((1, 4), (3, 2)), 1), (((1, 4), (2, 2)), 1),
    (((1, 4), (2, 3), (5, 7)), 2), (((1, 4), (2, 5), (3, 6)), 1), (((1, 2), (3, 5), (4, 6)), 2),
    (((1, 6), (2, 4), (3, 5)), 2), (((1, 5), (2, 3), (4, 6)), 2), (((1, 3), (2, 6), (4, 5)), 1),
    (((1, 6), (4, 5), (2, 3)), 2), (((1, 4), (2, 3), (4, 6)), 2), (((1, 4), (2, 3), (3, 6)), 2),
    (((1, 6), (2, 5), (3, 5)), 2), (((1, 2), (3, 4), (3, 6)), 2), (((1, 6), (2, 3), (4, 6)), 2),
    (((),), 0), (((1,),), 0), (((1, 2, 3),), 0), (((1, 2), ()), 1), (((1, 2), (3,)), 1), (((1, 2), (3, 4, 5)), 1),
    (([1, 2],), 0), (((1, 2), [3, 4]), 1), (((1, 2), {3: 4}), 1), (((1, 2), {3, 4}), 1), (((1, 2), "34"), 1),
    (((1, 2), b"\x03\x04"), 1), (((1, 2), range(3, 5)), 1), (((1, 2), None), 1), (((1, 2), 3), 1), ((1, 2), 0),
    (((1, 4), (2, 3), None), 2), (((1, 3), (2, 4), None), 1), ((None, (1, 3), (2, 4)), 0), ((((1, 2),),), 0),
    ((((1,), (2,)),), 0), ((((1, 2), (3, 4)),), 0), (((1, 2), (3, 4), (3, 5), None), 2),
    (((True, 2),), 0), (((1, True),), 0), (((False, True),), 0), (((True, 4), (2, 3)), 0), (((1, 4), (True, 3)), 1),
    (((1, 4), (2, True)), 1), (((1, 2), (3, 4), (True, 6)), 2),
    ((Refusing(),), 0), (((1, 2), Refusing()), 1), (((1, 2), Plain()), 1), (((1, Refusing()),), 0),
    (((Refusing(), 2),), 0), (("12",), 0), (("U", "D"), 0), (("UD",), 0), ((b"12", b"34"), 0),
    (NESTED_30[:29] + ((30, 32),), 29), (NESTED_30[:29], 0), (FLAT_30[:29] + ((59, 61),), 29),
    (FLAT_30[:29] + ((58, 60),), 29), (NESTED_30[:28] + ((29, 31), (30, 32)), 29), (FLAT_30[:29] + (None,), 29),
    ((None,) * 30, 0), (((1, 60),) * 30, 1), (((), ()) * 15, 0), ((0,) * 30, 0),
    (NESTED_31, None), (FLAT_31, None), ((None,) * 31, None), ((0,) * 31, None), (((1, 2),) * 31, None),
    (((),) * 31, None), (((1, 3), (2, 4)) * 16, None), (tuple(range(100000)), None), (((1, 2),) * 30000, None),
]


def is_point_of(value, size):
    return value.__class__ is int and value in range(1, 2 * size + 1)


def first_wrong_chord(value, may_cross=False):
    """The index that 5.6 (or 10.5, where chords may cross) asks for in a tuple of 0 to 30 items, or "valid"."""
    for index, chord in enumerate(value):
        if chord.__class__ is not tuple or len(chord) != 2:
            return index
        if not is_point_of(chord[0], len(value)) or not is_point_of(chord[1], len(value)) or chord[0] >= chord[1]:
            return index
        earlier = value[:index]
        if earlier and chord[0] <= earlier[-1][0]:
            return index
        if any(set(chord) & set(other) for other in earlier):
            return index
        if not may_cross and any(chords_cross(chord, other) for other in earlier):
            return index
    return "valid"


def no_diagrams():
    """Values of every kind that are no diagrams, with their indices."""
    values = [(value, None) for value in no_tuples() + [[[1, 2]], [(1, 2)], {(1, 2): 1}, {(1, 2)}]] + WRONG_TUPLES
    for value in no_text():
        values.append(((value,), 0))
        values.append((((1, 2), value), 1))
        values.append((((1, 4), (2, 3), value), 2))
    for value in no_points(1):
        values.append((((1, value),), 0))
        values.append((((value, 2),), 0))
    for value in no_points(2):
        values.append((((1, 2), (3, value)), 1))
        values.append((((1, 2), (value, 4)), 1))
        values.append((((1, 4), (value, 3)), 1))
    return values


def no_matchings():
    """Values of every kind that are no matchings, with their indices."""
    values = []
    for value, index in no_diagrams():
        if index is not None:
            index = first_wrong_chord(value, may_cross=True)
        if index != "valid":
            values.append((value, index))
    for value in no_points(2):
        values.append((((1, 3), (2, value)), 1))
        values.append((((1, 3), (value, 4)), 1))
    return values + [
        (((1, 3), (2, 3)), 1), (((1, 3), (2, 5)), 1), (((1, 3), (1, 4)), 1), (((2, 4), (1, 3)), 1),
        (((1, 3), (4, 2)), 1), (((1, 3), (3, 4)), 1), (((1, 4), (2, 5), (3, 5)), 2), (((1, 4), (2, 5), (3, 4)), 2),
        (((1, 4), (2, 5), (3, 7)), 2), (((1, 5), (3, 6), (2, 4)), 2), (((1, 3), (2, 4), (5, 5)), 2),
        (((1, 4), (2, 6), None), 2), (((1, 3), [2, 4]), 1), ([(1, 3), (2, 4)], None),
        (CROSSED_30[:29], 28), (CROSSED_30[:28], 26), (CROSSED_30[:29] + (None,), 29),
        (CROSSED_30[:29] + ((30, 61),), 29),
        (CROSSED_30[:29] + ((30, 59),), 29), (CROSSED_30[:29] + ((30, True),), 29), (CROSSED_31, None),
        (list(CROSSED_30), None), (dict(CROSSED_30), None),
    ]


def is_hashable(value):
    try:
        hash(value)
    except TypeError:
        return False
    return True


def no_coefficients():
    """Values of every kind that are no coefficients of a sum."""
    return no_integers() + [0]


def no_sums():
    """Values of every kind that are no sums, with the keys that their errors report."""
    flat, crossed, single = ((1, 2), (3, 4)), ((1, 3), (2, 4)), ((1, 2),)
    values = [(value, None) for value in no_text() + ["", "U", "()", "{}"] if not isinstance(value, dict)]
    values += [([(flat, 1)], None), (((flat, 1),), None), ({flat}, None), (flat, None), (crossed, None), ([], None)]
    for key in [key for key, _ in no_matchings() if is_hashable(key)]:
        values += [({key: 1}, key), ({flat: 1, key: 1}, key), ({key: 0, flat: 1}, key)]
        # A key that equals a matching, such as one with True for 1, is not a key beside it.
        if key not in (single, flat):
            values.append(({single: 1, flat: 1, key: 1}, key))
    for key in (FLAT_30, NESTED_30, CROSSED_30, FLAT_6, CROSSED_6):
        values += [({key: 1}, key), ({flat: 1, key: 1}, key), ({key: 1, crossed: 0}, key)]
        values.append(({crossed: 0, key: 1}, crossed))
    for coefficient in no_coefficients():
        values += [
            ({crossed: coefficient}, crossed), ({(): coefficient}, ()), ({flat: 1, crossed: coefficient}, crossed),
            ({crossed: coefficient, flat: 0}, crossed), ({flat: 1, single: 1, crossed: coefficient}, crossed),
        ]
    return values + [
        ({flat: 1, single: 1}, None), ({single: 1, flat: 1}, None), ({(): 1, single: 1}, None),
        ({flat: 1, (): 1}, None),
        ({FLAT_5: 1, crossed: 1, flat: 1}, None), ({"": 0, flat: 0}, ""), ({flat: 0, "": 0}, flat),
        ({"U": "D"}, "U"), ({(): ()}, ()), ({None: 1}, None), ({0: 1}, 0), ({flat: 1, None: 1, "": 1}, None),
    ]


def no_columns():
    """Values of every kind that are no columns of a matrix."""
    values = no_tuples() + [value for value in no_text() if isinstance(value, tuple)]
    values += [(1,), (1, 2, 3), [1, 2], {1: 2}, {1, 2}, range(2), ((1, 2),), ((1, 2), (3, 4)), (1, [2]), ((1,), 2)]
    for value in no_integers():
        values += [(value, 1), (1, value), (value, value)]
    return values


def no_matrices(size):
    """Values of every kind that are no matrices of a size, with their indices."""
    columns = tuple((point, point * point - 7) for point in range(1, 2 * size + 3))
    matrix = columns[:2 * size]
    values = [(value, None) for value in no_tuples()]
    values += [(list(matrix), None), (dict(matrix), None), (columns[:2 * size + 1], None), (columns, None)]
    values += [(matrix[:-1], None), (matrix[:-2], None), ((None,) * (2 * size + 2), None)] if size > 0 else []
    for index in range(2 * size):
        if index in (0, 1, size, 2 * size - 1):
            for column in no_columns():
                values.append((matrix[:index] + (column,) + matrix[index + 1:], index))
                values.append((matrix[:index] + (column,) * (2 * size - index), index))
    return values


def no_sizes(low, high):
    """Values of every kind that are no integers from low to high."""
    return no_integers() + [low - 1, low - 2, high + 1, high + 2, 10 ** 999, -(10 ** 999)]


def no_polynomials():
    """Values of every kind that are no polynomials, with their indices."""
    values = [(value, None) for value in no_tuples() + [[1, 2], {0: 1}, {1, 2}, range(1, 3), "12", b"12"]]
    for value in no_integers():
        values += [((value,), 0), ((1, value), 1), ((value, 1), 0), ((0, value, 0), 1), ((0,) * 1999 + (value,), 1999)]
        values += [((1, value, value), 1), ((value, 0), 0), ((1, 0, value, "", 3), 2)]
    return values + [
        ((0,), 0), ((0, 0), 1), ((1, 0), 1), ((1, 0, 0), 2), ((0, 1, 0), 2), ((1,) * 2000 + (0,), 2000),
        ((0,) * 2000, 1999), ((10 ** 999, 0), 1), ((None, 0), 0), ((0, True), 1), ((True, 0), 0), (((1,),), 0),
        ((Refusing(), 0), 0), ((0, Refusing()), 1), ((Plain(),), 0),
    ]
