"""Sums of matchings, their expansions into diagrams, and certificates for these."""

from chordturn.checks import is_pair, is_true_integer, validate_same_size, validate_steps
from chordturn.errors import InvalidCertificate, InvalidSum, MissingTerm, TooLarge
from chordturn.matchings import crossings, is_crossing, is_matching, rotate_matching, uncross, validate_matching

MOST_EXPANDED = 5

# Five chords cross at most once for each pair of them.
MOST_CROSSINGS = 10


def validate_sum(terms):
    """Raise InvalidSum if a value of any kind is not a sum."""
    if not isinstance(terms, dict):
        raise InvalidSum(None)
    for key, coefficient in terms.items():
        if not _is_term(key, coefficient):
            raise InvalidSum(key)
    if len({len(matching) for matching in terms}) > 1:
        raise InvalidSum(None)


def _is_term(key, coefficient):
    """Return whether a key and its value, of any kind, are a matching of a sum and its coefficient."""
    if not is_matching(key) or len(key) > MOST_EXPANDED:
        return False
    return is_true_integer(coefficient) and coefficient != 0


def sum_of(matching, *, coefficient=1):
    """Return the sum in which a matching has a coefficient."""
    validate_matching(matching)
    if len(matching) > MOST_EXPANDED:
        raise TooLarge(MOST_EXPANDED)
    if coefficient == 0:
        return {}
    return {matching: coefficient}


def add_sums(terms, others, *, factor=1):
    """Return the sum of one sum and of the other one multiplied by a factor."""
    validate_sum(terms)
    validate_sum(others)
    if terms and others:
        validate_same_size(common_size(terms), common_size(others))
    total = _copied(terms)
    for matching, coefficient in others.items():
        _add_term(total, matching, coefficient * factor)
    return _in_order(total)


def common_size(terms):
    """Return the size of the matchings of a valid sum; 0 for the empty sum, which has every size."""
    sizes = [len(matching) for matching in terms]
    return sizes[0] if sizes else 0


def _copied(terms):
    """Return a dict that may be changed, with the items of a sum."""
    return {matching: coefficient for matching, coefficient in terms.items()}


def _in_order(terms):
    """Return a sum with its matchings in ascending order."""
    return {matching: terms[matching] for matching in sorted(terms)}


def _add_term(terms, matching, coefficient):
    """Add a coefficient to that of a matching, in the dict itself."""
    changed = terms.get(matching, 0) + coefficient
    if changed != 0:
        terms[matching] = changed
    elif matching in terms:
        del terms[matching]


def rotate_sum(terms, *, steps=1):
    """Return the sum in which every matching is rotated."""
    validate_sum(terms)
    validate_steps(steps)
    return _in_order({rotate_matching(matching, steps=steps): terms[matching] for matching in terms})


def replace(terms, matching, crossing):
    """Return the sum after replacing a matching at a crossing."""
    validate_sum(terms)
    made = uncross(matching, crossing)
    if matching not in terms:
        raise MissingTerm(matching)
    present = _copied(terms)
    _replace_by(present, matching, made)
    return _in_order(present)


def _replace_by(present, matching, made):
    """Replace a matching of a sum by the matchings made of it, in the dict itself."""
    coefficient = present.pop(matching)
    for uncrossed in made:
        _add_term(present, uncrossed, coefficient)


def expand(terms):
    """Return the expansion of a sum."""
    validate_sum(terms)
    _, expansion = _expanded(terms)
    return _in_order(expansion)


def _expanded(terms):
    """Return the list of the steps of the standard certificate of a valid sum, and the expansion."""
    present = _copied(terms)
    steps = []
    # Uncrossing makes matchings with fewer crossings only, so those with the greatest
    # number are all known before the first of them is replaced.
    for count in range(MOST_CROSSINGS, 0, -1):
        level = sorted([key for key in present if len(crossings(key)) == count])
        for matching in level:
            crossing = crossings(matching)[0]
            steps.append((matching, crossing))
            _replace_by(present, matching, uncross(matching, crossing))
    return steps, present


def are_equivalent(terms, others):
    """Return whether the expansions of two sums are equal."""
    return not expand(add_sums(terms, others, factor=-1))


def certificate(terms):
    """Return the standard certificate of a sum."""
    validate_sum(terms)
    steps, _ = _expanded(terms)
    return tuple(steps)


def check_certificate(terms, value):
    """Return the expansion of a sum that a certificate shows; the value may be of any kind."""
    validate_sum(terms)
    if not isinstance(value, tuple):
        raise InvalidCertificate(None)
    present = _copied(terms)
    for index, step in enumerate(value):
        if not _is_step(step, present):
            raise InvalidCertificate(index)
        matching, crossing = step
        _replace_by(present, matching, uncross(matching, crossing))
    if any([crossings(matching) for matching in present]):
        raise InvalidCertificate(len(value))
    return _in_order(present)


def _is_step(value, present):
    """Return whether a value of any kind is a pair of a matching of the sum and one of its crossings."""
    if not is_pair(value):
        return False
    matching, crossing = value
    return is_matching(matching) and matching in present and is_crossing(crossing, matching)
