import copy
import unittest
from itertools import combinations, permutations, product

from chordturn.diagrams import is_diagram
from chordturn.errors import (
    InvalidCertificate, InvalidCrossing, InvalidMatching, InvalidSteps, InvalidSum, MissingTerm, SizesDiffer, TooLarge,
)
from chordturn.expansions import (
    add_sums, are_equivalent, certificate, check_certificate, expand, replace, rotate_sum, sum_of, validate_sum,
)
from chordturn.matchings import reflect_matching, rotate_matching
from tests.support import (
    Plain, Refusing, added, assert_raises_field, assert_same, crossings_by_definition, expanded, in_order,
    large_matchings, no_integers, no_text, no_tuples, pairings_of_size, sample_diagrams, sample_sums, scattered,
    small_matchings, turned, turned_order, uncrossed_by_definition,
)
from tests.wrong import CROSSED_5, CROSSED_6, CROSSED_30, FLAT_5, FLAT_6, FLAT_30, no_matchings, no_sums

FLAT, CROSSED, NESTED = ((1, 2), (3, 4)), ((1, 3), (2, 4)), ((1, 4), (2, 3))
SINGLE = ((1, 2),)
SIX = ((1, 4), (2, 5), (3, 6))
BIG = 10 ** 20 - 1
EXPANDED_SIX = {
    ((1, 2), (3, 4), (5, 6)): 1, ((1, 2), (3, 6), (4, 5)): 1, ((1, 4), (2, 3), (5, 6)): 1,
    ((1, 6), (2, 3), (4, 5)): 1, ((1, 6), (2, 5), (3, 4)): 1,
}
STEPS_SIX = (
    (((1, 4), (2, 5), (3, 6)), (1, 2, 4, 5)), (((1, 5), (2, 4), (3, 6)), (1, 3, 5, 6)),
    (((1, 3), (2, 4), (5, 6)), (1, 2, 3, 4)), (((1, 6), (2, 4), (3, 5)), (2, 3, 4, 5)),
)


def whole_size_5():
    return {matching: 3 * index - 1000 for index, matching in enumerate(pairings_of_size(5))}


def all_sums():
    return sample_sums() + [{matching: 1} for matching in small_matchings()] + [whole_size_5()]


def replaced(terms, matching, crossing):
    """The sum of 11.2."""
    rest = {key: terms[key] for key in terms if key != matching}
    first, second = uncrossed_by_definition(matching, crossing)
    return added((rest, 1), ({first: 1}, terms[matching]), ({second: 1}, terms[matching]))


def standard_steps(terms):
    """The certificate of 11.7, step by step."""
    steps = []
    present = dict(terms)
    while True:
        counts = {matching: len(crossings_by_definition(matching)) for matching in present}
        most = max(counts.values(), default=0)
        if most == 0:
            return tuple(steps)
        matching = min(matching for matching in present if counts[matching] == most)
        steps.append((matching, crossings_by_definition(matching)[0]))
        present = replaced(present, *steps[-1])


def scattered_steps(terms, number):
    """A certificate whose steps come in an irregular order."""
    numbers = scattered(number)
    steps = []
    present = dict(terms)
    while True:
        choices = [(key, crossing) for key in sorted(present) for crossing in crossings_by_definition(key)]
        if not choices:
            return tuple(steps)
        steps.append(choices[next(numbers) % len(choices)])
        present = replaced(present, *steps[-1])


class Case(unittest.TestCase):
    def assert_sum(self, found, expected):
        """Check the items of a sum, their kinds, and their order."""
        self.assertIs(found.__class__, dict)
        self.assertEqual(list(found), sorted(found))
        assert_same(self, list(found.items()), list(in_order(expected).items()))

    def assert_untouched(self, function, *args, **named):
        """Check that a call does not modify its arguments, and that its result belongs to the caller."""
        before = repr((args, named))
        first = function(*args, **named)
        self.assertEqual(repr((args, named)), before)
        kept = dict(first)
        for arg in args:
            self.assertIsNot(first, arg)
        first.clear()
        first["changed"] = [1]
        self.assertEqual(repr((args, named)), before)
        self.assert_sum(function(*args, **named), kept)


class Validation(Case):
    def test_the_examples_of_the_interface(self):
        assert_raises_field(self, InvalidSum, "key", CROSSED, validate_sum, {CROSSED: 0})

    def test_sums_in_any_order(self):
        for terms in all_sums():
            for number in range(3):
                self.assertIsNone(validate_sum(turned_order(terms, number)))
            self.assertIsNone(validate_sum(terms=terms))

    def test_every_single_matching_of_five_chords_and_six(self):
        for matching in pairings_of_size(5):
            self.assertIsNone(validate_sum({matching: -1}))
        for matching in (FLAT_6, CROSSED_6, *large_matchings(), FLAT_30):
            assert_raises_field(self, InvalidSum, "key", matching, validate_sum, {matching: -1})

    def test_values_of_every_kind(self):
        for value, key in no_sums():
            assert_raises_field(self, InvalidSum, "key", key, validate_sum, value)

    def test_coefficients_of_any_size(self):
        for coefficient in (1, -1, BIG, -BIG, 10 ** 999, -(10 ** 999)):
            self.assertIsNone(validate_sum({CROSSED: coefficient}))

    def test_different_sizes_come_behind_every_wrong_key(self):
        for one, other in permutations([(), SINGLE, FLAT, SIX, FLAT_5], 2):
            assert_raises_field(self, InvalidSum, "key", None, validate_sum, {one: 1, other: 1})
            assert_raises_field(self, InvalidSum, "key", FLAT_6, validate_sum, {one: 1, other: 1, FLAT_6: 1})
            assert_raises_field(self, InvalidSum, "key", other, validate_sum, {one: 1, other: 0})
            assert_raises_field(self, InvalidSum, "key", "", validate_sum, {one: 1, other: 1, "": 1})
            assert_raises_field(self, InvalidSum, "key", one, validate_sum, {one: True, other: 1, "": 1})

    def test_the_field_holds_the_key_itself(self):
        key = ((1, 3), (2, 5))
        with self.assertRaises(InvalidSum) as caught:
            validate_sum({FLAT: 1, key: 1})
        self.assertIs(caught.exception.key, key)


class Faults(Case):
    """The errors of all functions, in the order of the interface."""

    def test_a_wrong_sum(self):
        for value, key in no_sums():
            for function in (rotate_sum, expand, certificate):
                assert_raises_field(self, InvalidSum, "key", key, function, value)
            assert_raises_field(self, InvalidSum, "key", key, rotate_sum, terms=value, steps=None)
            assert_raises_field(self, InvalidSum, "key", key, replace, value, FLAT, (1, 2, 3, 4))
            assert_raises_field(self, InvalidSum, "key", key, check_certificate, value, ())

    def test_the_first_sum_is_checked_before_the_second_one(self):
        for value, key in no_sums():
            for function in (add_sums, are_equivalent):
                for other in ({}, {SINGLE: 1}, {SIX: 1}):
                    assert_raises_field(self, InvalidSum, "key", key, function, value, other)
                    assert_raises_field(self, InvalidSum, "key", key, function, other, value)
                assert_raises_field(self, InvalidSum, "key", key, function, value, {"": 1})
                assert_raises_field(self, InvalidSum, "key", key, function, others=[], terms=value)
                assert_raises_field(self, InvalidSum, "key", "", function, {"": 1}, value)

    def test_sizes_that_differ(self):
        matchings = [(), SINGLE, CROSSED, SIX, pairings_of_size(4)[-1], CROSSED_5]
        for (size, one), (other_size, other) in permutations(enumerate(matchings), 2):
            for function in (add_sums, are_equivalent):
                found = (size, other_size)
                assert_raises_field(self, SizesDiffer, "sizes", found, function, {one: 1}, {other: -1})
                assert_raises_field(self, SizesDiffer, "sizes", found, function, terms={one: 1}, others={other: -1})
        assert_raises_field(self, SizesDiffer, "sizes", (2, 3), add_sums, {FLAT: 1, CROSSED: 2}, {SIX: 1}, factor=0)

    def test_sum_of_checks_the_matching_before_its_size(self):
        for value, index in no_matchings():
            assert_raises_field(self, InvalidMatching, "index", index, sum_of, value)
            assert_raises_field(self, InvalidMatching, "index", index, sum_of, matching=value, coefficient=0)
        for matching in [FLAT_6, CROSSED_6, CROSSED_30, *large_matchings()]:
            for coefficient in (1, 0, -3):
                assert_raises_field(self, TooLarge, "limit", 5, sum_of, matching, coefficient=coefficient)

    def test_rotate_sum_checks_the_sum_before_the_steps(self):
        for steps in no_integers():
            for terms in ({}, {(): 1}, {FLAT: 2, CROSSED: 1}):
                assert_raises_field(self, InvalidSteps, "steps", steps, rotate_sum, terms, steps=steps)
            assert_raises_field(self, InvalidSum, "key", FLAT, rotate_sum, {FLAT: 0}, steps=steps)
        self.assertRaises(TypeError, rotate_sum, {FLAT: 2}, 1)
        self.assertRaises(TypeError, sum_of, FLAT, 1)
        self.assertRaises(TypeError, add_sums, {}, {}, 1)

    def test_replace_checks_the_sum_the_matching_the_crossing_and_the_term(self):
        terms = {FLAT: 1, NESTED: 2}
        for value, index in no_matchings():
            for crossing in ((1, 2, 3, 4), None, True):
                assert_raises_field(self, InvalidMatching, "index", index, replace, terms, value, crossing)
            assert_raises_field(self, InvalidSum, "key", "", replace, {"": 1}, value, (1, 2, 3, 4))
        no_crossings = [
            (1, 3, 2, 4), (1, 2, 3, 5), (True, 2, 3, 4), [1, 2, 3, 4], (), None, "1234", (1, 2, 3), {}, 1, True,
            (1, 2, 3, Refusing()), Plain(), Refusing(), (1, 2, 3, 4, 5),
        ]
        for crossing in no_crossings + no_text():
            for matching in (FLAT, CROSSED, NESTED, (), SINGLE):
                assert_raises_field(self, InvalidCrossing, "crossing", crossing, replace, terms, matching, crossing)
            assert_raises_field(self, InvalidSum, "key", None, replace, [], CROSSED, crossing)
            assert_raises_field(self, InvalidMatching, "index", 0, replace, terms, ((1, 3),), crossing)
        for matching, crossing in ((CROSSED, (1, 2, 3, 4)), (SIX, (1, 2, 4, 5)), (CROSSED_6, (1, 2, 7, 8))):
            assert_raises_field(self, MissingTerm, "matching", matching, replace, terms, matching, crossing)
            assert_raises_field(self, MissingTerm, "matching", matching, replace, {}, matching, crossing)
        assert_raises_field(
            self, MissingTerm, "matching", CROSSED_30, replace, crossing=(1, 2, 31, 32), matching=CROSSED_30, terms={},
        )
        # A matching that occurs in the sum, but has no crossing there.
        assert_raises_field(self, InvalidCrossing, "crossing", (1, 2, 3, 4), replace, terms, FLAT, (1, 2, 3, 4))

    def test_wrong_arguments_are_not_modified(self):
        for value in ([1], {"": [1]}, {CROSSED: [1]}, [CROSSED], {CROSSED: 0}, {FLAT: 1, SINGLE: 1}):
            before = copy.deepcopy(value)
            for function in (validate_sum, rotate_sum, expand, certificate):
                self.assertRaises(InvalidSum, function, value)
            for function in (add_sums, are_equivalent):
                self.assertRaises(InvalidSum, function, value, {})
                self.assertRaises(InvalidSum, function, {}, value)
            self.assertRaises(InvalidSum, replace, value, CROSSED, (1, 2, 3, 4))
            self.assertRaises(InvalidSum, check_certificate, value, ())
            self.assertRaises(InvalidMatching, sum_of, value)
            self.assertRaises(InvalidMatching, replace, {}, value, (1, 2, 3, 4))
            self.assertRaises(InvalidCrossing, replace, {}, CROSSED, value)
            self.assertRaises(InvalidCertificate, check_certificate, {CROSSED: 1}, value)
            self.assertRaises(InvalidSteps, rotate_sum, {}, steps=value)
            self.assertEqual(repr(value), repr(before))


class Sums(Case):
    def test_the_examples_of_the_interface(self):
        self.assert_sum(sum_of(CROSSED, coefficient=3), {CROSSED: 3})
        self.assert_sum(add_sums({CROSSED: 1}, {CROSSED: 1, FLAT: 2}, factor=-1), {FLAT: -2})
        self.assert_sum(rotate_sum({FLAT: 2}), {NESTED: 2})

    def test_the_sum_of_one_matching(self):
        for matching in [*small_matchings(5), FLAT_5]:
            self.assert_sum(sum_of(matching), {matching: 1})
            self.assert_sum(sum_of(matching=matching, coefficient=0), {})
            for coefficient in (-1, 2, BIG, -BIG):
                self.assert_sum(sum_of(matching, coefficient=coefficient), {matching: coefficient})

    def test_adding_sums(self):
        sums = [terms for terms in all_sums() if len(terms) < 20]
        for one, other in product(sums, repeat=2):
            if not one or not other or len(list(one)[0]) == len(list(other)[0]):
                self.assert_sum(add_sums(one, other), added((one, 1), (other, 1)))
                for factor in (0, -1, 5, -BIG):
                    found = add_sums(others=other, terms=one, factor=factor)
                    self.assert_sum(found, added((one, 1), (other, factor)))

    def test_adding_large_sums(self):
        whole = whole_size_5()
        self.assert_sum(add_sums(whole, whole), added((whole, 2)))
        self.assert_sum(add_sums(turned_order(whole), whole, factor=-1), {})
        self.assert_sum(add_sums({}, turned_order(whole), factor=BIG), added((whole, BIG)))
        self.assert_sum(add_sums(turned_order(whole), {}), whole)

    def test_coefficients_grow_without_limit(self):
        terms = {CROSSED: BIG, FLAT: -BIG}
        self.assert_sum(add_sums(terms, terms, factor=BIG), added((terms, BIG + 1)))
        found = add_sums({}, {CROSSED: 10 ** 999}, factor=10 ** 900)
        self.assert_sum(found, {CROSSED: 10 ** 1899})

    def test_the_empty_sum_has_every_size(self):
        self.assert_sum(add_sums({}, {}), {})
        for matching in ((), SINGLE, CROSSED, SIX, CROSSED_5):
            self.assert_sum(add_sums({matching: 4}, {}), {matching: 4})
            self.assert_sum(add_sums({}, {matching: 4}), {matching: 4})
            self.assert_sum(add_sums({}, {matching: 4}, factor=0), {})
            self.assert_sum(add_sums({matching: 4}, {matching: 2}, factor=-2), {})

    def test_rotating_sums(self):
        for terms in all_sums():
            self.assert_sum(rotate_sum(terms), {turned(key, 1): terms[key] for key in terms})
            for steps in (0, -1, 2, -3, 10, 11, -10 ** 40 - 1, 10 ** 999):
                expected = {rotate_matching(key, steps=steps): terms[key] for key in terms}
                self.assert_sum(rotate_sum(terms=turned_order(terms), steps=steps), expected)

    def test_neither_arguments_nor_results_are_shared(self):
        for terms in sample_sums():
            order = turned_order(terms)
            self.assert_untouched(add_sums, order, dict(order))
            self.assert_untouched(add_sums, order, {}, factor=3)
            self.assert_untouched(add_sums, {}, order)
            self.assert_untouched(rotate_sum, order)
            self.assert_untouched(rotate_sum, order, steps=0)
            self.assert_untouched(expand, order)
            steps = certificate(order)
            self.assert_untouched(check_certificate, order, steps)
            if steps:
                self.assert_untouched(replace, order, *steps[0])
        for diagram in sample_diagrams():
            if len(diagram) <= 5:
                self.assert_untouched(expand, {diagram: 2})
                self.assert_untouched(check_certificate, {diagram: 2}, ())
                self.assert_untouched(sum_of, diagram, coefficient=2)

    def test_one_dict_twice(self):
        terms = {NESTED: 3, CROSSED: 2}
        self.assert_sum(add_sums(terms, terms, factor=-1), {})
        self.assertIs(are_equivalent(terms, terms), True)
        self.assertEqual(list(terms.items()), [(NESTED, 3), (CROSSED, 2)])


class Replacing(Case):
    def test_the_examples_of_the_interface(self):
        self.assert_sum(replace({CROSSED: 2, FLAT: -2}, CROSSED, (1, 2, 3, 4)), {NESTED: 2})

    def test_every_crossing_of_every_matching(self):
        for matching in small_matchings():
            for crossing in crossings_by_definition(matching):
                first, second = uncrossed_by_definition(matching, crossing)
                self.assert_sum(replace({matching: 5}, matching, crossing), {first: 5, second: 5})
                terms = {second: 2, matching: -2, first: 1}
                self.assert_sum(replace(terms, matching, crossing), {first: -1})
                terms = {second: BIG, matching: BIG}
                found = replace(terms=terms, matching=matching, crossing=crossing)
                self.assert_sum(found, {first: BIG, second: 2 * BIG})

    def test_sample_sums(self):
        for terms in all_sums():
            for matching in list(terms)[-12:]:
                for crossing in crossings_by_definition(matching)[:3]:
                    self.assert_sum(replace(terms, matching, crossing), replaced(terms, matching, crossing))

    def test_a_sum_that_vanishes(self):
        self.assert_sum(replace({FLAT: 1, CROSSED: -1, NESTED: 1}, CROSSED, (1, 2, 3, 4)), {})


class Expanding(Case):
    def test_the_examples_of_the_interface(self):
        self.assert_sum(expand({SIX: 1}), EXPANDED_SIX)
        self.assertIs(are_equivalent({CROSSED: 1}, {FLAT: 1, NESTED: 1}), True)

    def test_every_matching(self):
        for matching in small_matchings(5):
            found = expand({matching: 1})
            self.assert_sum(found, expanded({matching: 1}))
            self.assertTrue(all(is_diagram(diagram) for diagram in found))

    def test_sample_sums(self):
        for terms in all_sums():
            self.assert_sum(expand(terms), expanded(terms))
            self.assert_sum(expand(terms=turned_order(terms)), expanded(terms))

    def test_sums_without_crossings(self):
        self.assert_sum(expand({}), {})
        self.assert_sum(expand({(): -4}), {(): -4})
        self.assert_sum(expand({SINGLE: BIG}), {SINGLE: BIG})
        terms = {diagram: 2 * index + 1 for index, diagram in enumerate(pairings_of_size(5)) if is_diagram(diagram)}
        self.assertEqual(len(terms), 42)
        self.assert_sum(expand(turned_order(terms)), terms)

    def test_sums_that_vanish(self):
        self.assert_sum(expand({FLAT: 1, CROSSED: -1, NESTED: 1}), {})
        for matching in pairings_of_size(5)[::50]:
            terms = added((expanded({matching: 1}), -3), ({matching: 1}, 3))
            self.assert_sum(expand(terms), {})

    def test_replacing_in_any_order(self):
        for index, terms in enumerate(sample_sums()):
            if len(terms) < 20:
                present = terms
                for place, step in enumerate(scattered_steps(terms, index)):
                    present = replace(present, *step)
                    if place < 10:
                        self.assert_sum(expand(present), expand(terms))
                self.assert_sum(present, expand(terms))

    def test_expanding_goes_together_with_rotating_and_reflecting(self):
        for terms in all_sums():
            found = expand(terms)
            for steps in (1, -1, 3, 10 ** 30):
                self.assert_sum(expand(rotate_sum(terms, steps=steps)), rotate_sum(found, steps=steps))
            mirrored_terms = {reflect_matching(matching): terms[matching] for matching in terms}
            self.assert_sum(expand(mirrored_terms), {reflect_matching(diagram): found[diagram] for diagram in found})

    def test_expanding_goes_together_with_adding(self):
        sums = [terms for terms in all_sums() if terms and len(list(terms)[0]) in (3, 5)]
        for one, other in list(combinations(sums, 2))[::7]:
            if len(list(one)[0]) == len(list(other)[0]):
                for factor in (1, -1, BIG):
                    found = expand(add_sums(one, other, factor=factor))
                    self.assert_sum(found, add_sums(expand(one), expand(other), factor=factor))

    def test_equivalence(self):
        sums = [terms for terms in sample_sums() + [{m: 1} for m in small_matchings(3)] if len(terms) < 20]
        for one, other in product(sums, repeat=2):
            if not one or not other or len(list(one)[0]) == len(list(other)[0]):
                self.assertIs(are_equivalent(one, other), expanded(one) == expanded(other))
        for terms in all_sums():
            self.assertIs(are_equivalent(terms, turned_order(expand(terms))), True)
            self.assertIs(are_equivalent(others=terms, terms=expand(terms)), True)
            self.assertIs(are_equivalent(terms, {}), expand(terms) == {})
            self.assertIs(are_equivalent({}, terms), expand(terms) == {})
            if terms:
                first = min(terms)
                self.assertIs(are_equivalent(terms, add_sums(terms, {first: 1})), False)
                self.assertIs(are_equivalent(terms, add_sums({}, terms, factor=2)), expand(terms) == {})

    def test_equivalence_of_the_empty_sum(self):
        self.assertIs(are_equivalent({}, {}), True)
        self.assertIs(are_equivalent({(): 1}, {}), False)
        self.assertIs(are_equivalent({FLAT: 1, CROSSED: -1, NESTED: 1}, {}), True)


class Certificates(Case):
    def test_the_examples_of_the_interface(self):
        assert_same(self, certificate({SIX: 1}), STEPS_SIX)
        assert_raises_field(self, InvalidCertificate, "step", 0, check_certificate, {CROSSED: 1}, ())

    def test_the_standard_certificate(self):
        for terms in sample_sums() + [{matching: 1} for matching in small_matchings()]:
            assert_same(self, certificate(terms), standard_steps(terms))
            assert_same(self, certificate(terms=turned_order(terms)), standard_steps(terms))
        for matching in [CROSSED_5, *pairings_of_size(5)[::20]]:
            assert_same(self, certificate({matching: -2}), standard_steps({matching: -2}))
        assert_same(self, certificate({}), ())
        assert_same(self, certificate({(): 1}), ())
        assert_same(self, certificate({FLAT_5: BIG}), ())

    def test_the_standard_certificate_of_the_greatest_sums(self):
        # No matching comes twice, so the order of the steps is that of the crossings and then of the matchings.
        found = certificate(whole_size_5())
        counts = {matching: len(crossings_by_definition(matching)) for matching in pairings_of_size(5)}
        order = sorted(found, key=lambda step: (-counts[step[0]], step[0]))
        assert_same(self, list(found), order)
        for matching, crossing in found:
            assert_same(self, crossing, crossings_by_definition(matching)[0])
        self.assert_sum(check_certificate(whole_size_5(), found), expanded(whole_size_5()))

    def test_certificates_show_the_expansion(self):
        for index, terms in enumerate(sample_sums() + [{matching: 7} for matching in small_matchings()]):
            for steps in (certificate(terms), scattered_steps(terms, index)):
                self.assert_sum(check_certificate(turned_order(terms), steps), expanded(terms))
                self.assert_sum(check_certificate(value=steps, terms=terms), expand(terms))

    def test_a_certificate_for_no_crossings(self):
        self.assert_sum(check_certificate({}, ()), {})
        self.assert_sum(check_certificate({(): 2}, ()), {(): 2})
        self.assert_sum(check_certificate({NESTED: 2, FLAT: 1}, ()), {FLAT: 1, NESTED: 2})

    def test_a_certificate_that_is_too_short_or_too_long(self):
        for terms in sample_sums():
            steps = certificate(terms)
            for length in [*range(len(steps))[:8], *range(len(steps))[8::25], *range(len(steps))[-1:]]:
                self.check(terms, steps[:length], length)
            # The first matching is not made again, because no other one has more crossings.
            for extra in (*steps[:1], None, (), (CROSSED, (1, 2, 3, 4))):
                self.check(terms, steps + (extra,), len(steps))

    def test_one_changed_step(self):
        for index in range(4):
            for wrong in self.no_steps(SIX):
                self.check({SIX: 1}, STEPS_SIX[:index] + (wrong,) + STEPS_SIX[index + 1:], index)
                self.check({SIX: 1}, STEPS_SIX[:index] + (wrong,), index)
                self.check({SIX: 1}, STEPS_SIX[:index] + (wrong, wrong) + STEPS_SIX[index:], index)
            left_out = STEPS_SIX[:index] + STEPS_SIX[index + 1:]
            self.check({SIX: 1}, left_out, (0, 1, 3, 3)[index])
        self.check({SIX: 1}, STEPS_SIX + STEPS_SIX, 4)
        self.check({SIX: 1}, STEPS_SIX[1:], 0)
        self.check({SIX: 1}, (STEPS_SIX[0], STEPS_SIX[2]), 1)
        self.check({SIX: 1}, (STEPS_SIX[0], STEPS_SIX[0]), 1)

    def no_steps(self, matching):
        """Values of every kind that are no steps, beside any sum of matchings of size 3."""
        crossing = crossings_by_definition(matching)[0]
        values = [
            (), (matching,), (matching, crossing, crossing), [matching, crossing], (crossing, matching), matching,
            (list(matching), crossing), (matching, list(crossing)), (matching, (1, 2, 3, 4)), (matching, ()),
            (matching, (True,) + crossing[1:]), (((True, 4), (2, 5), (3, 6)), crossing), (matching, None),
            (matching, Refusing()), (Refusing(), crossing), (matching, (1, 2, 4, Refusing())), crossing,
            (matching, (matching, crossing)),
            (matching, (2, 1, 5, 4)), (matching, crossing + (6,)), (CROSSED, (1, 2, 3, 4)), (CROSSED_6, (1, 2, 7, 8)),
            {matching: crossing}, {matching, crossing}, (CROSSED_30, (1, 2, 31, 32)), ((), ()), (matching, "1245"),
            (((1, 4), (2, 5), (3, 5)), crossing), (((1, 4), [2, 5], (3, 6)), crossing), ((matching, crossing),),
        ]
        for value in no_text():
            values += [value, (value, crossing), (matching, value)]
        return values

    def test_values_of_every_kind(self):
        for value in no_tuples() + [[], list(STEPS_SIX), [STEPS_SIX], {}, dict(STEPS_SIX), set(STEPS_SIX)]:
            for terms in ({}, {CROSSED: 1}, {SIX: 1}, {(): 1}):
                assert_raises_field(self, InvalidCertificate, "step", None, check_certificate, terms, value)
        for step in self.no_steps(SIX):
            for terms in ({}, {CROSSED_5: 1}, {SIX: 1}, {(): 1}):
                assert_raises_field(self, InvalidCertificate, "step", 0, check_certificate, terms, (step,))
                self.check(terms, (step, step), 0)

    def test_the_sum_is_checked_before_the_certificate(self):
        for value in (None, [], (None,), STEPS_SIX, 1, "", ()):
            assert_raises_field(self, InvalidSum, "key", SIX, check_certificate, {SIX: 0}, value)
            assert_raises_field(self, InvalidSum, "key", None, check_certificate, None, value)

    def test_a_matching_that_vanishes_on_the_way(self):
        # The first step makes the matching with the opposite coefficient, so it does not occur any more.
        first, second = uncrossed_by_definition(SIX, (1, 2, 4, 5))
        self.assertNotEqual(crossings_by_definition(second), ())
        crossing = crossings_by_definition(second)[0]
        terms = {second: -1, SIX: 1}
        self.check(terms, ((SIX, (1, 2, 4, 5)), (second, crossing)), 1)
        self.assert_sum(check_certificate(terms, ((SIX, (1, 2, 4, 5)),)), {first: 1})
        # In the other order, the matching is replaced and then made again.
        self.check(terms, ((second, crossing), (SIX, (1, 2, 4, 5))), 2)
        rest = scattered_steps(replaced(replaced(terms, second, crossing), SIX, (1, 2, 4, 5)), 5)
        steps = ((second, crossing), (SIX, (1, 2, 4, 5))) + rest
        self.assert_sum(check_certificate(terms, steps), expanded(terms))
        self.assert_sum(check_certificate(terms, steps), {first: 1})

    def test_any_crossing_of_any_matching_may_come_next(self):
        for matching in (((1, 5), (2, 6), (3, 7), (4, 8)), ((1, 3), (2, 4), (5, 7), (6, 8))):
            for crossing in crossings_by_definition(matching):
                rest = certificate(replaced({matching: 2}, matching, crossing))
                found = check_certificate({matching: 2}, ((matching, crossing),) + rest)
                self.assert_sum(found, expanded({matching: 2}))

    def check(self, terms, value, step):
        assert_raises_field(self, InvalidCertificate, "step", step, check_certificate, terms, value)


if __name__ == "__main__":
    unittest.main()
