"""What several tests need: sample words, diagrams and partitions, values of other kinds, and checks.

The samples are found by the definitions, without the help of the package.
"""

from functools import lru_cache
from itertools import combinations, product

CATALAN = (1, 1, 2, 5, 14, 42, 132)


def first_fault(text):
    """The position that 3.8 asks for in a string, or "valid"."""
    if len(text) > 60:
        return None
    for index in range(len(text)):
        prefix = text[:index + 1]
        if text[index] not in ("U", "D") or prefix.count("D") > prefix.count("U"):
            return index
    return len(text) if text.count("U") > text.count("D") else "valid"


@lru_cache(maxsize=None)
def words_of_size(size):
    texts = ("".join(letters) for letters in product("DU", repeat=2 * size))
    return tuple(text for text in texts if first_fault(text) == "valid")


def small_words():
    return [word for size in range(len(CATALAN)) for word in words_of_size(size)]


def scattered_word(size, state):
    """A word that looks irregular, and is the same in every run."""
    letters = []
    height = 0
    for place in range(2 * size):
        state = (state * 1103515245 + 12345) % 2 ** 31
        left = 2 * size - place
        if height == 0 or (height < left and (state >> 16) % 2 == 0):
            letters.append("U")
            height += 1
        else:
            letters.append("D")
            height -= 1
    return "".join(letters)


def large_words():
    regular = ["U" * 30 + "D" * 30, "UD" * 30, "UUDD" * 15, "UUDUDD" * 10, "U" * 29 + "UD" + "D" * 29]
    return regular + [scattered_word(size, state) for size in (7, 12, 29, 30) for state in range(1, 9)]


def sample_words():
    return small_words() + large_words()


def rows_of(word):
    """The tableau of 4.3, read off the word."""
    places = range(1, len(word) + 1)
    return (
        tuple(place for place in places if word[place - 1] == "U"),
        tuple(place for place in places if word[place - 1] == "D"),
    )


def joined_by_definition(word):
    """The partners of 3.4: each D takes the last U before it that is still free."""
    joined = {}
    for point in range(1, len(word) + 1):
        if word[point - 1] == "D":
            free = [p for p in range(1, point) if word[p - 1] == "U" and p not in joined]
            joined[point] = free[-1]
            joined[free[-1]] = point
    return tuple(joined[point] for point in range(1, len(word) + 1))


def chords_of(word):
    """The diagram of 5.2, by the definition of the partners."""
    joined = joined_by_definition(word)
    return tuple((point, joined[point - 1]) for point in range(1, len(word) + 1) if point < joined[point - 1])


@lru_cache(maxsize=None)
def diagrams_of_size(size):
    return tuple(sorted(chords_of(word) for word in words_of_size(size)))


def small_diagrams():
    return [diagram for size in range(len(CATALAN)) for diagram in diagrams_of_size(size)]


def large_diagrams():
    return [chords_of(word) for word in large_words()]


def sample_diagrams():
    return small_diagrams() + large_diagrams()


@lru_cache(maxsize=None)
def pairings_of(points):
    """All ways to join the points in pairs, each as ascending pairs in ascending order."""
    if not points:
        return ((),)
    first = points[0]
    found = []
    for other in points[1:]:
        rest = tuple(point for point in points[1:] if point != other)
        found += [((first, other), *pairs) for pairs in pairings_of(rest)]
    return tuple(found)


def pairings_of_size(size):
    return pairings_of(tuple(range(1, 2 * size + 1)))


def chords_cross(one, other):
    """Whether two chords cross, in either order."""
    (i, k), (j, l) = sorted([one, other])
    return i < j < k < l


@lru_cache(maxsize=None)
def crossings_by_definition(chords):
    """10.2: i < j < k < l such that (i, k) and (j, l) are chords, in ascending order."""
    points = range(1, 2 * len(chords) + 1)
    return tuple((i, j, k, l) for i, j, k, l in combinations(points, 4) if (i, k) in chords and (j, l) in chords)


def uncrossed_by_definition(chords, crossing):
    """The pair of matchings of 10.3."""
    i, j, k, l = crossing
    others = set(chords) - {(i, k), (j, l)}
    return tuple(sorted(others | {(i, j), (k, l)})), tuple(sorted(others | {(i, l), (j, k)}))


def small_matchings(most=4):
    return [matching for size in range(most + 1) for matching in pairings_of_size(size)]


def scattered(number):
    """Integers that look irregular, from 0 to 32767, and are the same in every run."""
    state = number + 1
    while True:
        state = (state * 1103515245 + 12345) % 2 ** 31
        yield state >> 16


def scattered_matching(size, number):
    """A matching that looks irregular, and is the same in every run."""
    numbers = scattered(number)
    points = list(range(1, 2 * size + 1))
    chords = []
    while points:
        low = points.pop(next(numbers) % len(points))
        high = points.pop(next(numbers) % len(points))
        chords.append((min(low, high), max(low, high)))
    return tuple(sorted(chords))


def large_matchings():
    found = [scattered_matching(size, number) for size in (6, 7, 11, 29, 30) for number in range(4)]
    for size in (6, 30):
        found.append(tuple((point, point + size) for point in range(1, size + 1)))
        found.append(tuple((point, 2 * size + 1 - point) for point in range(1, size + 1)))
    return found


def in_order(terms):
    """A sum with its matchings in ascending order, and without coefficients that are 0."""
    return {matching: terms[matching] for matching in sorted(terms) if terms[matching] != 0}


def turned_order(terms, number=1):
    """The same sum, with its matchings in an order that looks irregular."""
    keys = sorted(terms)
    numbers = scattered(number)
    order = [keys.pop(next(numbers) % len(keys)) for _ in range(len(keys))]
    return {key: terms[key] for key in order}


def added(*parts):
    """The sum of pairs of a sum and a factor."""
    total = {}
    for terms, factor in parts:
        for matching, coefficient in terms.items():
            total[matching] = total.get(matching, 0) + factor * coefficient
    return in_order(total)


def scattered_sum(size, count, number, digits=1):
    """A sum of up to so many matchings of a size, in an irregular order, with coefficients of so many digits."""
    numbers = scattered(number)
    matchings = pairings_of_size(size)
    terms = {}
    for _ in range(count):
        coefficient = 1 + next(numbers) % 9
        for _ in range(digits - 1):
            coefficient = 10 * coefficient + next(numbers) % 10
        terms[matchings[next(numbers) * len(matchings) >> 15]] = coefficient * (-1) ** (next(numbers) % 2)
    return terms


def sample_sums():
    """Sums of all sizes, in irregular orders."""
    found = [{}, {(): 1}, {(): -(10 ** 20 - 1)}, {((1, 2),): 1}, {((1, 2),): 10 ** 20 - 1}]
    for size, count in ((2, 2), (2, 3), (3, 4), (3, 10), (4, 5), (4, 40), (5, 3), (5, 60)):
        for number in range(3):
            found.append(scattered_sum(size, count, number))
            found.append(scattered_sum(size, count, number + 10, digits=20))
    # Sums whose matchings cancel on the way: a matching beside the two that it makes.
    for matching in (((1, 3), (2, 4)), ((1, 4), (2, 5), (3, 6)), ((1, 5), (2, 6), (3, 7), (4, 8))):
        for crossing in crossings_by_definition(matching):
            first, second = uncrossed_by_definition(matching, crossing)
            found += [{second: -7, matching: 7, first: -7}, {second: -7, matching: 7}]
            found.append({first: 7, second: 2, matching: -7})
    return found


@lru_cache(maxsize=None)
def expanded_items(matching):
    """The items of the expansion of a matching: it uncrosses the last crossing, and expands what this makes."""
    found = crossings_by_definition(matching)
    if not found:
        return ((matching, 1),)
    parts = [(dict(expanded_items(made)), 1) for made in uncrossed_by_definition(matching, found[-1])]
    return tuple(added(*parts).items())


def expanded(terms):
    """The expansion of a sum."""
    return added(*((dict(expanded_items(matching)), factor) for matching, factor in terms.items()))


def renumbered(chords, number):
    """The chords with every point replaced by its new number, sorted as 7.1 says."""
    return tuple(sorted(tuple(sorted(number(point) for point in chord)) for chord in chords))


def turned(chords, steps):
    """7.1: every point p becomes the point that is congruent to p - steps."""
    points = range(1, 2 * len(chords) + 1)
    return renumbered(chords, lambda p: next(q for q in points if (q - p + steps) % len(points) == 0))


def mirrored(chords):
    return renumbered(chords, lambda p: 2 * len(chords) + 1 - p)


def blocks_cross(one, other):
    """Whether two blocks cross: a and c in one, b and d in the other, in the order a < b < c < d."""
    for first, second in ((one, other), (other, one)):
        for a, c in combinations(sorted(first), 2):
            for b, d in combinations(sorted(second), 2):
                if a < b < c < d:
                    return True
    return False


def has_crossing_blocks(blocks):
    return any(blocks_cross(one, other) for one, other in combinations(blocks, 2))


@lru_cache(maxsize=None)
def groupings_of_size(size):
    """All ways to put the integers from 1 to the size into blocks, crossing or not."""
    if size == 0:
        return ((),)
    found = []
    for blocks in groupings_of_size(size - 1):
        found.append(blocks + ((size,),))
        for place, block in enumerate(blocks):
            found.append(blocks[:place] + (block + (size,),) + blocks[place + 1:])
    return tuple(tuple(sorted(blocks)) for blocks in found)


@lru_cache(maxsize=None)
def partitions_of_size(size):
    return tuple(sorted(blocks for blocks in groupings_of_size(size) if not has_crossing_blocks(blocks)))


def small_partitions():
    return [partition for size in range(len(CATALAN)) for partition in partitions_of_size(size)]


def blocks_of(chords):
    """The partition of a diagram, by 8.2: item i goes on to the item whose odd point its even point is joined to."""
    joined = {}
    for i, j in chords:
        joined[i] = j
        joined[j] = i
    following = {item: (joined[2 * item] + 1) // 2 for item in range(1, len(chords) + 1)}
    blocks = set()
    for item in following:
        block = {item}
        while following[item] not in block:
            item = following[item]
            block.add(item)
        blocks.add(tuple(sorted(block)))
    return tuple(sorted(blocks))


def large_partitions():
    return [blocks_of(diagram) for diagram in large_diagrams()]


def sample_partitions():
    return small_partitions() + large_partitions()


class Plain:
    """An object that has nothing in common with any builtin value."""


class Refusing:
    """An object that cannot be compared, measured, hashed or iterated."""

    __hash__ = None

    def __eq__(self, other):
        raise AssertionError("compared")

    def __len__(self):
        raise AssertionError("measured")

    def __iter__(self):
        raise AssertionError("iterated")

    def __repr__(self):
        raise AssertionError("shown")


def nested(depth):
    value = ()
    for _ in range(depth):
        value = (value,)
    return value


def no_text():
    """Values of every kind but str; none of them is a tableau either."""
    return [
        None, True, False, 0, 1, -1, 10 ** 999, -(10 ** 999), 1j, b"", b"UD", bytearray(b"UD"),
        [], ["U", "D"], [(), ()], {}, {"U": "D"}, {(): ()}, (), ("U", "D"), ("UD",), ("", ""), set(), {"U"},
        frozenset("UD"), range(0), range(2), Plain(), Plain, Refusing(), len, str, ..., NotImplemented,
        nested(30), tuple(range(100000)), iter("UD"), ValueError("UD"), ("UD" for _ in range(1)),
    ]


def no_tuples():
    """Values of every kind but tuple."""
    texts = ["", "U", "UD", "()", "((1, 2),)", "(1,)", "1", " ", "\n", "~" * 10000]
    return [value for value in no_text() if not isinstance(value, tuple)] + texts


def no_integers():
    """Values of every kind but integer; True and False are among them."""
    others = [value for value in no_text() if isinstance(value, bool) or not isinstance(value, int)]
    return others + ["", "1", "0", "U", "UD", (1,), [1], {1}, {1: 1}, b"\x01"]


def no_points(size):
    """Values that are not points of a size, of every kind."""
    return no_integers() + [0, -1, -2, 2 * size + 1, 2 * size + 2, 61, 62, 10 ** 999, -(10 ** 999)]


def no_items(size):
    """Values that are not items of a partition of a size, of every kind."""
    return no_integers() + [0, -1, size + 1, size + 2, 31, 10 ** 999, -(10 ** 999)]


def assert_raises_field(case, error, field, value, function, *args, **named):
    """Check the class of the error, and that its field holds the value, with its kind."""
    with case.assertRaises(error) as caught:
        function(*args, **named)
    case.assertIs(caught.exception.__class__, error)
    held = getattr(caught.exception, field)
    case.assertIs(held.__class__, value.__class__)
    if not (held is value):
        case.assertEqual(held, value)
        if isinstance(held, tuple):
            case.assertEqual([item.__class__ for item in held], [item.__class__ for item in value])


def assert_same(case, found, expected):
    """Check that two values are equal, and of the same kinds throughout."""
    case.assertEqual(shown(found), shown(expected))
    case.assertTrue(found == expected)


def shown(value):
    """The text of a value, also if it holds integers that are too long for Python to write in decimal digits."""
    try:
        return repr(value)
    except ValueError:
        return hex(value) if isinstance(value, int) else [value.__class__, *map(shown, value)]
