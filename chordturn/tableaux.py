"""Two-row tableaux, their promotion and their evacuation.

Inside this module, the entries of a tableau are also kept as a dict from cells
to entries: a cell without an entry is simply not a key of it.
"""

from chordturn.checks import is_point
from chordturn.errors import InvalidTableau
from chordturn.words import MOST_SIZE, from_parts, partners, validate_word


def validate_tableau(tableau):
    """Raise InvalidTableau if a value of any kind is not a tableau."""
    if not _has_two_rows(tableau):
        raise InvalidTableau(None)
    upper, lower = tableau
    _validate_upper(upper)
    _validate_lower(lower, upper)


def _has_two_rows(value):
    """Return whether a value is a pair of tuples of the same length that is not too large."""
    if not isinstance(value, tuple) or len(value) != 2:
        return False
    upper, lower = value
    if not isinstance(upper, tuple) or not isinstance(lower, tuple):
        return False
    return len(upper) == len(lower) and len(upper) <= MOST_SIZE


def _validate_upper(upper):
    """Raise InvalidTableau for the first wrong entry of the upper row."""
    before = 0
    for column, entry in enumerate(upper):
        if not is_point(entry, len(upper)) or entry <= before:
            raise InvalidTableau((0, column))
        before = entry


def _validate_lower(lower, upper):
    """Raise InvalidTableau for the first wrong entry of the lower row, under a valid upper row."""
    before = 0
    for column, entry in enumerate(lower):
        if not is_point(entry, len(lower)) or entry <= before:
            raise InvalidTableau((1, column))
        if entry in upper or entry <= upper[column]:
            raise InvalidTableau((1, column))
        before = entry


def is_tableau(value):
    """Return whether a value of any kind is a tableau."""
    try:
        validate_tableau(value)
    except InvalidTableau:
        return False
    return True


def tableau_of(word):
    """Return the tableau of a word."""
    validate_word(word)
    return _positions(word, "U"), _positions(word, "D")


def _positions(word, wanted):
    """Return the points of a word at which a letter stands."""
    return tuple([point for point, letter in enumerate(word, start=1) if letter == wanted])


def word_of(tableau):
    """Return the word of a tableau."""
    validate_tableau(tableau)
    upper, lower = tableau
    points = range(1, len(upper) + len(lower) + 1)
    return "".join(["U" if point in upper else "D" for point in points])


def slide_path(tableau):
    """Return all cells of the hole of a slide, in order."""
    validate_tableau(tableau)
    if not tableau[0]:
        return ()
    return tuple(_slide(_entries_of(tableau)))


def promote(tableau):
    """Return the promotion of a tableau."""
    validate_tableau(tableau)
    if not tableau[0]:
        return (), ()
    entries = _entries_of(tableau)
    greatest = len(entries)
    path = _slide(entries)
    promoted = {cell: entry - 1 for cell, entry in entries.items()}
    promoted[path[-1]] = greatest
    return _tableau_with(promoted)


def demote(tableau):
    """Return the tableau whose promotion is the given one."""
    word = word_of(tableau)
    if not word:
        return (), ()
    # Promotion makes a + U + b + D of U + a + D + b. Here this is read backwards.
    opener = partners(word)[-1]
    return tableau_of(from_parts(word[:opener - 1], word[opener:-1]))


def freed_cells(tableau):
    """Return the cells that evacuation frees, in the order of its steps."""
    validate_tableau(tableau)
    entries = _entries_of(tableau)
    freed = []
    while entries:
        path = _slide(entries)
        freed.append(path[-1])
    return tuple(freed)


def evacuate(tableau):
    """Return the evacuation of a tableau."""
    freed = freed_cells(tableau)
    greatest = len(freed)
    return _tableau_with({cell: greatest - index for index, cell in enumerate(freed)})


def _entries_of(tableau):
    """Return the dict from the cells of a tableau to their entries."""
    entries = {}
    for row in (0, 1):
        for column, entry in enumerate(tableau[row]):
            entries[(row, column)] = entry
    return entries


def _tableau_with(entries):
    """Return the tableau in which every cell has an entry of the dict."""
    columns = range(len(entries) // 2)
    upper = tuple([entries[(0, column)] for column in columns])
    lower = tuple([entries[(1, column)] for column in columns])
    return upper, lower


def _slide(entries):
    """Take the smallest entry out of the dict, close the hole, and return the path of the hole."""
    hole = (0, 0)
    path = [hole]
    cell = _cell_to_move(entries, hole)
    while cell is not None:
        entries[hole] = entries[cell]
        hole = cell
        path.append(hole)
        cell = _cell_to_move(entries, hole)
    del entries[hole]
    return path


def _cell_to_move(entries, hole):
    """Return the neighbour whose entry moves into the hole, or None if there is none."""
    row, column = hole
    # Below the lower row there is no key of the dict, so the row needs no check.
    cells = [cell for cell in ((row, column + 1), (row + 1, column)) if cell in entries]
    return min(cells, key=lambda cell: entries[cell], default=None)
