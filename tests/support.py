"""What several tests need: sample words, values of other kinds, and a check of errors.

The words are found by the definition, without the help of the package.
"""

from functools import lru_cache
from itertools import product

CATALAN = (1, 1, 2, 5, 14, 42, 132)


def first_fault(text):
    """The position that 3.8 asks for in a string, or "valid"."""
    if len(text) > 60:
        return None
    for index in range(len(text)):
        prefix = text[:index + 1]
        if text[index] not in ("U", "D") or prefix.count("D") > prefix.count("U"):
            return index
    return len(text) if text.count("U") > text.count("D") else "valid"


@lru_cache(maxsize=None)
def words_of_size(size):
    texts = ("".join(letters) for letters in product("DU", repeat=2 * size))
    return tuple(text for text in texts if first_fault(text) == "valid")


def small_words():
    return [word for size in range(len(CATALAN)) for word in words_of_size(size)]


def scattered_word(size, state):
    """A word that looks irregular, and is the same in every run."""
    letters = []
    height = 0
    for place in range(2 * size):
        state = (state * 1103515245 + 12345) % 2 ** 31
        left = 2 * size - place
        if height == 0 or (height < left and (state >> 16) % 2 == 0):
            letters.append("U")
            height += 1
        else:
            letters.append("D")
            height -= 1
    return "".join(letters)


def large_words():
    regular = ["U" * 30 + "D" * 30, "UD" * 30, "UUDD" * 15, "UUDUDD" * 10, "U" * 29 + "UD" + "D" * 29]
    return regular + [scattered_word(size, state) for size in (7, 12, 29, 30) for state in range(1, 9)]


def sample_words():
    return small_words() + large_words()


def rows_of(word):
    """The tableau of 4.3, read off the word."""
    places = range(1, len(word) + 1)
    return (
        tuple(place for place in places if word[place - 1] == "U"),
        tuple(place for place in places if word[place - 1] == "D"),
    )


def joined_by_definition(word):
    """The partners of 3.4: each D takes the last U before it that is still free."""
    joined = {}
    for point in range(1, len(word) + 1):
        if word[point - 1] == "D":
            free = [p for p in range(1, point) if word[p - 1] == "U" and p not in joined]
            joined[point] = free[-1]
            joined[free[-1]] = point
    return tuple(joined[point] for point in range(1, len(word) + 1))


class Plain:
    """An object that has nothing in common with any builtin value."""


class Refusing:
    """An object that cannot be compared, measured, hashed or iterated."""

    __hash__ = None

    def __eq__(self, other):
        raise AssertionError("compared")

    def __len__(self):
        raise AssertionError("measured")

    def __iter__(self):
        raise AssertionError("iterated")

    def __repr__(self):
        raise AssertionError("shown")


def nested(depth):
    value = ()
    for _ in range(depth):
        value = (value,)
    return value


def no_text():
    """Values of every kind but str; none of them is a tableau either."""
    return [
        None, True, False, 0, 1, -1, 10 ** 999, -(10 ** 999), 1j, b"", b"UD", bytearray(b"UD"),
        [], ["U", "D"], [(), ()], {}, {"U": "D"}, {(): ()}, (), ("U", "D"), ("UD",), ("", ""), set(), {"U"},
        frozenset("UD"), range(0), range(2), Plain(), Plain, Refusing(), len, str, ..., NotImplemented,
        nested(30), tuple(range(100000)), iter("UD"), ValueError("UD"), ("UD" for _ in range(1)),
    ]


def no_points(size):
    """Values that are not points of a size, of every kind."""
    others = [value for value in no_text() if isinstance(value, bool) or not isinstance(value, int)]
    return others + ["", "1", "U", (1,), [1], {1}, {1: 1}, b"\x01",
                     0, -1, -2, 2 * size + 1, 2 * size + 2, 61, 62, 10 ** 999, -(10 ** 999)]


def assert_raises_field(case, error, field, value, function, *args, **named):
    """Check the class of the error, and that its field holds the value, with its kind."""
    with case.assertRaises(error) as caught:
        function(*args, **named)
    case.assertIs(caught.exception.__class__, error)
    held = getattr(caught.exception, field)
    case.assertIs(held.__class__, value.__class__)
    if not (held is value):
        case.assertEqual(held, value)
        if isinstance(held, tuple):
            case.assertEqual([item.__class__ for item in held], [item.__class__ for item in value])
