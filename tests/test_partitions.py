import copy
import unittest
from itertools import combinations, product

from chordturn.errors import InvalidDiagram, InvalidPartition, InvalidPoint, SizesDiffer
from chordturn.partitions import (
    block_of, complement, diagram_of_partition, is_finer, is_partition, join_of, meet_of, partition_of, partition_rank,
    validate_partition,
)
from tests.support import (
    CATALAN, Plain, Refusing, assert_raises_field, assert_same, blocks_cross, blocks_of, diagrams_of_size,
    groupings_of_size, has_crossing_blocks, large_diagrams, large_partitions, no_items, no_text, no_tuples,
    partitions_of_size, sample_diagrams, sample_partitions, small_partitions, turned,
)

SINGLES_30 = tuple((item,) for item in range(1, 31))
WHOLE_30 = (tuple(range(1, 31)),)
PAIRS_30 = tuple((item, 31 - item) for item in range(1, 16))

# Values that are no partitions because of their form.
NO_BLOCKS = [
    [(1,)], [[1]], {(1,): 1}, {(1,)}, ((1,), ()), ((), (1,)), ((),), ((), ()), ((1, 3), (2, 4), ()),
    ((), (1, 3), (2, 4)),
    (1,), (1, 2), ((1,), 2), (1, (2,)), ([1],), ((1,), [2]), ((2,), [1]), ((1,), "2"), ((1,), {2}), ((1,), {2: 2}),
    ((1,), range(2, 3)), ((1,), b"\x02"), ((1,), None), (None, (1,)), ((9,), None), ("1",), ("",), (Refusing(),),
    ((1,), Refusing()), ((1,), Plain()), (0,) * 30, ((),) * 31, ((1,), True), (True, (2,)),
    tuple((item,) for item in range(1, 32)), (tuple(range(1, 32)),), ((0,) * 31,), ((None,) * 31,), ((1,),) * 31,
    (tuple(range(1, 17)), tuple(range(17, 32))), ((2, 1), (0,) * 29), ((None,) * 15, (None,) * 16),
    (tuple(range(99000)),), ((1,),) * 49000, ((1, 1),) * 16, WHOLE_30 + ((31,),), SINGLES_30 + ((31,),),
]

# Tuples of at most 30 items in blocks that are no partitions, with the index of the first violation.
WRONG_BLOCKS = [
    (((1, 3), (2, 4)), 1), (((1, 2), (2, 3)), 1), (((1, 2), (1, 3)), 1), (((1,), (1,)), 1), (((1, 2), (1, 2)), 1),
    (((2,), (1,)), 1), (((1, 4), (3,), (2,)), 2), (((2, 3), (1,)), 1), (((1, 4), (2, 5), (3,)), 1),
    (((0,),), 0), (((2,),), 0), (((-1,),), 0), (((1, 3),), 0), (((1,), (3,)), 1), (((10 ** 999,),), 0),
    (((-(10 ** 999),),), 0), (((2, 1),), 0), (((1, 1),), 0), (((1, 3, 2),), 0), (((1, 2, 2),), 0), (((2, 2), (1,)), 0),
    (((1, 3), (2, 2)), 1), (((1, 3), (3,)), 1), (((1, 3, 4), (2, 3)), 1), (((1, 4), (2, 4)), 1),
    (((1,), (2,), (2,)), 2),
    (((1, 4), (2, 6), (3, 5)), 1), (((1, 5), (2, 3), (4, 6)), 2), (((1, 2), (3, 5), (4, 6)), 2),
    (((1, 3, 5), (2, 4, 6)), 1), (((1, 3, 5), (2, 6), (4,)), 1), (((1, 3, 5), (2, 4), (6,)), 1),
    (((1, 4), (2, 3, 5)), 1), (((1, 6), (2, 4), (3, 5)), 2), (((1, 5, 6), (2, 3), (4, 7)), 2),
    (((1, 7), (2, 6), (3, 5), (4, 8)), 3), (((1, 4, 7), (2, 3), (5, 8), (6,)), 2), (((1, 2, 6), (3, 5, 7), (4,)), 1),
    (((1, 3), (2, 4), (None,)), 1), (((None,), (1, 3), (2, 4)), 0), (((1, 4), (2, 5), (3, 6)), 1),
    (((True,),), 0), (((False,),), 0), (((1, True),), 0), (((True, 2),), 0), (((1,), (True,)), 1),
    (((1, 3), (True,)), 1),
    (((1,), (2, True)), 1), (((1, 2), (True, 4)), 1),
    (((None,),), 0), ((("1",),), 0), ((("",),), 0), (((b"\x01",),), 0), ((((1,),),), 0), ((((1,), (2,)),), 0),
    ((([1],),), 0), ((({1: 1},),), 0), ((((),),), 0), (((1, None),), 0), (((1,), (None, 3)), 1), (((1,), ((2,),)), 1),
    (((Refusing(),),), 0), (((1, Refusing()),), 0), (((1,), (Refusing(),)), 1), (((Plain(), 1),), 0),
    (SINGLES_30[:29] + ((31,),), 29), (SINGLES_30[:29] + ((29,),), 29), (SINGLES_30[:29] + ((None,),), 29),
    (((0,),) * 30, 0), (((1,),) * 30, 1), (((None,) * 30,), 0), (PAIRS_30[:14] + ((15, 17),), 14),
    (PAIRS_30[:13] + ((14, 16), (15, 17)), 14), ((tuple(range(1, 30)) + (31,),), 0), ((tuple(range(30)),), 0),
]


def is_item_of(value, size):
    return value.__class__ is int and value in range(1, size + 1)


def first_wrong_block(value):
    """The index that 8.6 asks for in a tuple of at most 30 items in tuples that are not empty, or "valid"."""
    size = sum(len(block) for block in value)
    for index, block in enumerate(value):
        if not all(is_item_of(item, size) for item in block) or list(block) != sorted(set(block)):
            return index
        earlier = value[:index]
        if earlier and block[0] <= earlier[-1][0]:
            return index
        if any(set(block) & set(other) or blocks_cross(block, other) for other in earlier):
            return index
    return "valid"


def no_partitions():
    """Values of every kind that are no partitions, with their indices."""
    values = [(value, None) for value in no_tuples() + NO_BLOCKS] + WRONG_BLOCKS
    for value in no_text():
        if not isinstance(value, tuple) or not value or len(value) > 30:
            values.append(((value,), None))
            values.append((((1,), value), None))
            values.append((((5,), value), None))
    for value in no_items(1):
        values.append((((value,),), 0))
    for value in no_items(3):
        values.append((((1,), (value, 3)), 1))
        values.append((((1,), (2, value)), 1))
        values.append((((1, 3), (value,)), 1))
    return values


def finer(one, other):
    return all(any(set(block) <= set(container) for container in other) for block in one)


def coarsest(candidates):
    """The candidate that all candidates are finer than."""
    found = [one for one in candidates if all(finer(other, one) for other in candidates)]
    assert len(found) == 1
    return found[0]


def finest(candidates):
    """The candidate that is finer than all candidates."""
    found = [one for one in candidates if all(finer(one, other) for other in candidates)]
    assert len(found) == 1
    return found[0]


def join_by_merging(one, other):
    """8.3: merge any two blocks that share an item or cross, until there are none."""
    blocks = [set(block) for block in one + other]
    while True:
        touching = [
            (first, second) for first, second in combinations(range(len(blocks)), 2)
            if blocks[first] & blocks[second] or blocks_cross(blocks[first], blocks[second])
        ]
        if not touching:
            return tuple(sorted(tuple(sorted(block)) for block in blocks))
        first, second = touching[0]
        blocks[first] |= blocks.pop(second)


def meet_by_definition(one, other):
    common = [tuple(sorted(set(block) & set(cutting))) for block, cutting in product(one, other)]
    return tuple(sorted(block for block in common if block))


def complement_by_items(partition):
    """8.4 in its second description: item i is drawn at 2 * i - 1, and the new item i' at 2 * i."""
    size = sum(len(block) for block in partition)
    old = [tuple(2 * item - 1 for item in block) for block in partition]
    fitting = []
    for candidate in partitions_of_size(size):
        new = [tuple(2 * item for item in block) for block in candidate]
        if not any(blocks_cross(first, second) for first, second in product(old, new)):
            fitting.append(candidate)
    return coarsest(fitting)


def pairs_of_size(size):
    return product(partitions_of_size(size), repeat=2)


def large_pairs():
    large = [partition for partition in large_partitions() if sum(map(len, partition)) == 30]
    return product(large + [SINGLES_30, WHOLE_30, PAIRS_30], repeat=2)


class Validation(unittest.TestCase):
    def check(self, value, expected):
        if expected == "valid":
            self.assertIsNone(validate_partition(value))
            self.assertIs(is_partition(value), True)
        else:
            assert_raises_field(self, InvalidPartition, "index", expected, validate_partition, value)
            self.assertIs(is_partition(value), False)

    def test_the_examples_of_the_interface(self):
        self.check(((1, 3), (2, 4)), 1)
        self.check(((1, 3), (2,)), "valid")

    def test_size_0(self):
        self.check((), "valid")

    def test_all_partitions_of_small_sizes(self):
        for size, count in enumerate(CATALAN):
            self.assertEqual(len(partitions_of_size(size)), count)
            for partition in partitions_of_size(size):
                self.check(partition, "valid")

    def test_large_partitions(self):
        for partition in [*large_partitions(), SINGLES_30, WHOLE_30, PAIRS_30]:
            self.check(partition, "valid")

    def test_all_groupings(self):
        for size in range(8):
            for grouping in groupings_of_size(size):
                expected = first_wrong_block(grouping)
                self.check(grouping, expected)
                self.assertEqual(expected == "valid", not has_crossing_blocks(grouping))

    def test_all_tuples_of_one_or_two_short_blocks(self):
        blocks = [block for length in (1, 2, 3) for block in product(range(0, 5), repeat=length)]
        for size in (1, 2):
            for value in product(blocks, repeat=size):
                self.check(value, first_wrong_block(value))

    def test_all_tuples_of_three_ascending_blocks(self):
        blocks = [block for length in (1, 2, 3) for block in combinations(range(1, 7), length)]
        for value in product(blocks, repeat=3):
            self.check(value, first_wrong_block(value))

    def test_every_partition_with_one_item_changed(self):
        for partition in small_partitions():
            for index, block in enumerate(partition):
                for place, item in enumerate(block):
                    for new in (item - 1, item + 1, item + 2):
                        changed = block[:place] + (new,) + block[place + 1:]
                        value = partition[:index] + (changed,) + partition[index + 1:]
                        self.check(value, first_wrong_block(value))

    def test_values_of_a_wrong_form(self):
        for value in NO_BLOCKS:
            self.check(value, None)

    def test_listed_blocks(self):
        for value, index in WRONG_BLOCKS:
            self.check(value, index)

    def test_values_of_every_kind(self):
        for value, index in no_partitions():
            self.check(value, index)

    def test_the_parameters_may_be_passed_by_name(self):
        self.assertIsNone(validate_partition(partition=((1,),)))
        self.assertIs(is_partition(value=((1,),)), True)
        assert_raises_field(self, InvalidPartition, "index", 0, validate_partition, partition=((2,),))


class Faults(unittest.TestCase):
    """The errors of all functions but is_partition, which has none."""

    def test_a_wrong_partition(self):
        for function in (diagram_of_partition, complement, partition_rank):
            for value, index in no_partitions():
                assert_raises_field(self, InvalidPartition, "index", index, function, value)
                assert_raises_field(self, InvalidPartition, "index", index, function, partition=value)

    def test_a_wrong_diagram(self):
        listed = [
            (((1, 3), (2, 4)), 1), (((1, 2), (2, 3)), 1), (((1, 3), (2,)), 1), (((1,),), 0), (((1, 2), (3, True)), 1),
            ([(1, 2)], None), (((1, 2),) * 31, None), (((1, 2), [3, 4]), 1), (((1, 2), (3, None)), 1),
        ]
        for value, index in listed + [(value, None) for value in no_tuples()]:
            assert_raises_field(self, InvalidDiagram, "index", index, partition_of, value)
            assert_raises_field(self, InvalidDiagram, "index", index, partition_of, diagram=value)

    def test_block_of_checks_the_partition_before_the_item(self):
        for value, index in no_partitions():
            for item in (1, 0, True, None):
                assert_raises_field(self, InvalidPartition, "index", index, block_of, value, item)

    def test_block_of_refuses_what_is_not_an_item(self):
        for size, partition in [(0, ()), (1, ((1,),)), (3, ((1, 3), (2,))), (30, SINGLES_30), (30, WHOLE_30)]:
            for item in no_items(size):
                assert_raises_field(self, InvalidPoint, "point", item, block_of, partition, item)
        assert_raises_field(self, InvalidPoint, "point", 1, block_of, (), 1)
        assert_raises_field(self, InvalidPoint, "point", 4, block_of, partition=((1, 3), (2,)), item=4)

    def test_the_field_holds_the_item_itself(self):
        for value in ([1], (1, 2), "1", {}, Plain()):
            with self.assertRaises(InvalidPoint) as caught:
                block_of(((1,),), value)
            self.assertIs(caught.exception.point, value)

    def test_pairs_check_one_then_other_then_the_sizes(self):
        for function in (is_finer, meet_of, join_of):
            for value, index in no_partitions():
                assert_raises_field(self, InvalidPartition, "index", index, function, value, ())
                assert_raises_field(self, InvalidPartition, "index", index, function, (), value)
                assert_raises_field(self, InvalidPartition, "index", index, function, value, ((1,), (3,), None))
                assert_raises_field(self, InvalidPartition, "index", index, function, one=((1,),), other=value)
            assert_raises_field(self, InvalidPartition, "index", 1, function, ((1, 3), (2, 4)), ((2,),))
            assert_raises_field(self, InvalidPartition, "index", 0, function, ((2,),), ((1, 3), (2, 4)))
            assert_raises_field(self, InvalidPartition, "index", None, function, None, ((2,),))
            assert_raises_field(self, InvalidPartition, "index", 0, function, ((2,),), None)

    def test_different_sizes(self):
        samples = [(0, ()), (1, ((1,),)), (2, ((1, 2),)), (3, ((1, 3), (2,))), (3, ((1, 2, 3),)), (30, SINGLES_30)]
        for function in (is_finer, meet_of, join_of):
            for (size, one), (length, other) in product(samples, repeat=2):
                if size == length:
                    function(one, other)
                else:
                    assert_raises_field(self, SizesDiffer, "sizes", (size, length), function, one, other)
            assert_raises_field(self, SizesDiffer, "sizes", (3, 2), function, other=((1, 2),), one=((1, 3), (2,)))
            # The sizes are numbers of items, not of blocks.
            assert_raises_field(self, SizesDiffer, "sizes", (2, 3), function, ((1,), (2,)), ((1, 3), (2,)))

    def test_wrong_arguments_are_not_modified(self):
        for value in ([[1, 2]], [(1,)], {1: [2]}, ([1],), ((1,), [2]), ((1, [2]),)):
            before = copy.deepcopy(value)
            self.assertIs(is_partition(value), False)
            for function in (validate_partition, diagram_of_partition, complement, partition_rank):
                self.assertRaises(InvalidPartition, function, value)
            for function in (is_finer, meet_of, join_of):
                self.assertRaises(InvalidPartition, function, value, ((1,),))
                self.assertRaises(InvalidPartition, function, ((1,),), value)
            self.assertRaises(InvalidPartition, block_of, value, 1)
            self.assertRaises(InvalidPoint, block_of, ((1,),), value)
            self.assertRaises(InvalidDiagram, partition_of, value)
            self.assertEqual(value, before)


class DiagramsAndPartitions(unittest.TestCase):
    def test_the_examples_of_the_interface(self):
        assert_same(self, diagram_of_partition(((1, 3), (2,))), ((1, 6), (2, 5), (3, 4)))
        assert_same(self, partition_of(((1, 6), (2, 5), (3, 4))), ((1, 3), (2,)))

    def test_sizes_0_1_and_30(self):
        assert_same(self, diagram_of_partition(()), ())
        assert_same(self, partition_of(()), ())
        assert_same(self, diagram_of_partition(partition=((1,),)), ((1, 2),))
        assert_same(self, partition_of(diagram=((1, 2),)), ((1,),))
        assert_same(self, diagram_of_partition(SINGLES_30), tuple((2 * item - 1, 2 * item) for item in range(1, 31)))
        whole = ((1, 60), *((2 * item, 2 * item + 1) for item in range(1, 30)))
        assert_same(self, diagram_of_partition(WHOLE_30), whole)
        assert_same(self, partition_of(whole), WHOLE_30)

    def test_the_chords_of_every_block(self):
        for partition in sample_partitions():
            chords = set()
            for block in partition:
                for place, item in enumerate(block):
                    following = block[(place + 1) % len(block)]
                    chords.add(tuple(sorted((2 * item, 2 * following - 1))))
            assert_same(self, diagram_of_partition(partition), tuple(sorted(chords)))

    def test_the_partition_of_every_diagram(self):
        for diagram in sample_diagrams():
            assert_same(self, partition_of(diagram), blocks_of(diagram))

    def test_each_leads_back_from_the_other(self):
        for diagram in sample_diagrams():
            assert_same(self, diagram_of_partition(partition_of(diagram)), diagram)
            self.assertIs(is_partition(partition_of(diagram)), True)
        for partition in sample_partitions():
            assert_same(self, partition_of(diagram_of_partition(partition)), partition)

    def test_all_of_a_size(self):
        for size in range(len(CATALAN)):
            diagrams = diagrams_of_size(size)
            self.assertEqual(tuple(sorted(partition_of(diagram) for diagram in diagrams)), partitions_of_size(size))
            built = sorted(diagram_of_partition(partition) for partition in partitions_of_size(size))
            self.assertEqual(tuple(built), diagrams)


class Complement(unittest.TestCase):
    def test_the_example_of_the_interface(self):
        assert_same(self, complement(((1, 3), (2,))), ((1, 2), (3,)))

    def test_sizes_0_1_2_and_30(self):
        assert_same(self, complement(()), ())
        assert_same(self, complement(partition=((1,),)), ((1,),))
        assert_same(self, complement(((1,), (2,))), ((1, 2),))
        assert_same(self, complement(((1, 2),)), ((1,), (2,)))
        assert_same(self, complement(SINGLES_30), WHOLE_30)
        assert_same(self, complement(WHOLE_30), SINGLES_30)

    def test_the_rotated_diagram(self):
        for partition in sample_partitions():
            expected = turned(diagram_of_partition(partition), 1)
            assert_same(self, diagram_of_partition(complement(partition)), expected)

    def test_the_coarsest_partition_of_the_new_items(self):
        for size in range(6):
            for partition in partitions_of_size(size):
                assert_same(self, complement(partition), complement_by_items(partition))

    def test_complementing_twice_renumbers_the_items(self):
        for partition in sample_partitions():
            size = sum(map(len, partition))
            expected = sorted(tuple(sorted(item - 1 or size for item in block)) for block in partition)
            assert_same(self, complement(complement(partition)), tuple(expected))

    def test_the_ranks_add_up(self):
        for partition in sample_partitions():
            size = sum(map(len, partition))
            if size > 0:
                self.assertEqual(partition_rank(partition) + partition_rank(complement(partition)), size - 1)
        self.assertEqual(partition_rank(complement(())), 0)

    def test_finer_and_coarser_meets_and_joins_are_exchanged(self):
        for size in range(6):
            for one, other in pairs_of_size(size):
                self.check(one, other)

    def test_finer_and_coarser_meets_and_joins_of_size_30(self):
        for one, other in large_pairs():
            self.check(one, other)

    def check(self, one, other):
        turned_one, turned_other = complement(one), complement(other)
        self.assertIs(is_finer(turned_other, turned_one), is_finer(one, other))
        assert_same(self, join_of(turned_one, turned_other), complement(meet_of(one, other)))
        assert_same(self, meet_of(turned_one, turned_other), complement(join_of(one, other)))


class BlocksAndRanks(unittest.TestCase):
    def test_the_examples_of_the_interface(self):
        assert_same(self, block_of(((1, 3), (2,)), 3), (1, 3))
        assert_same(self, partition_rank(((1, 3), (2,))), 1)

    def test_edges(self):
        assert_same(self, partition_rank(()), 0)
        assert_same(self, partition_rank(partition=((1,),)), 0)
        assert_same(self, partition_rank(SINGLES_30), 0)
        assert_same(self, partition_rank(WHOLE_30), 29)
        assert_same(self, partition_rank(PAIRS_30), 15)
        assert_same(self, block_of(partition=((1,),), item=1), (1,))
        assert_same(self, block_of(SINGLES_30, 30), (30,))
        assert_same(self, block_of(WHOLE_30, 30), WHOLE_30[0])
        assert_same(self, block_of(PAIRS_30, 16), (15, 16))

    def test_every_item_of_every_block(self):
        for partition in sample_partitions():
            for block in partition:
                for item in block:
                    assert_same(self, block_of(partition, item), block)
            expected = sum(map(len, partition)) - len(partition)
            assert_same(self, partition_rank(partition), expected)


class FinerMeetsAndJoins(unittest.TestCase):
    def test_the_examples_of_the_interface(self):
        self.assertIs(is_finer(((1,), (2,), (3,)), ((1, 3), (2,))), True)
        assert_same(self, meet_of(((1, 3), (2,)), ((1, 2), (3,))), ((1,), (2,), (3,)))
        assert_same(self, join_of(((1, 3), (2,), (4,)), ((1,), (2, 4), (3,))), ((1, 2, 3, 4),))

    def test_sizes_0_1_and_30(self):
        self.assertIs(is_finer((), ()), True)
        assert_same(self, meet_of((), ()), ())
        assert_same(self, join_of((), ()), ())
        self.assertIs(is_finer(one=((1,),), other=((1,),)), True)
        assert_same(self, meet_of(one=((1,),), other=((1,),)), ((1,),))
        assert_same(self, join_of(one=((1,),), other=((1,),)), ((1,),))
        self.assertIs(is_finer(SINGLES_30, WHOLE_30), True)
        self.assertIs(is_finer(WHOLE_30, SINGLES_30), False)
        assert_same(self, meet_of(SINGLES_30, WHOLE_30), SINGLES_30)
        assert_same(self, join_of(SINGLES_30, WHOLE_30), WHOLE_30)
        assert_same(self, join_of(PAIRS_30, SINGLES_30), PAIRS_30)

    def test_by_hand(self):
        self.assertIs(is_finer(((1, 3), (2,)), ((1,), (2,), (3,))), False)
        self.assertIs(is_finer(other=((1, 2, 3),), one=((1, 3), (2,))), True)
        self.assertIs(is_finer(((1, 2), (3,)), ((1, 3), (2,))), False)
        self.assertIs(is_finer(((1, 2), (3, 4)), ((1, 2, 3), (4,))), False)
        assert_same(self, meet_of(((1, 2, 3), (4,)), ((1,), (2, 3, 4))), ((1,), (2, 3), (4,)))
        assert_same(self, meet_of(((1, 2, 4), (3,)), ((1, 4), (2, 3))), ((1, 4), (2,), (3,)))
        assert_same(self, join_of(((1, 2), (3, 4)), ((1,), (2, 3), (4,))), ((1, 2, 3, 4),))
        # The union of two blocks crosses a third one that neither of the two crosses.
        one = ((1, 2), (3, 6), (4,), (5,))
        other = ((1,), (2, 4), (3,), (5,), (6,))
        assert_same(self, join_of(one, other), ((1, 2, 3, 4, 6), (5,)))
        one = ((1, 5), (2, 4), (3,), (6,))
        other = ((1,), (2,), (3, 6), (4,), (5,))
        assert_same(self, join_of(one, other), ((1, 2, 3, 4, 5, 6),))

    def test_the_definitions_by_search(self):
        for size in range(5):
            for one, other in pairs_of_size(size):
                finer_ones = [part for part in partitions_of_size(size) if finer(part, one) and finer(part, other)]
                coarser_ones = [part for part in partitions_of_size(size) if finer(one, part) and finer(other, part)]
                assert_same(self, meet_of(one, other), coarsest(finer_ones))
                assert_same(self, join_of(one, other), finest(coarser_ones))

    def test_the_definitions_of_small_sizes(self):
        for size in range(7):
            for one, other in pairs_of_size(size):
                self.check(one, other)

    def test_the_definitions_of_size_30(self):
        for one, other in large_pairs():
            self.check(one, other)

    def check(self, one, other):
        self.assertIs(is_finer(one, other), finer(one, other))
        assert_same(self, meet_of(one, other), meet_by_definition(one, other))
        assert_same(self, join_of(one, other), join_by_merging(one, other))

    def test_finer_is_an_order(self):
        for size in range(6):
            for one, other in pairs_of_size(size):
                self.assertIs(is_finer(one, other) and is_finer(other, one), one == other)
                self.assertIs(is_finer(one, other), meet_of(one, other) == one)
                self.assertIs(is_finer(one, other), join_of(one, other) == other)
                self.assertIs(is_finer(meet_of(one, other), one), True)
                self.assertIs(is_finer(one, join_of(one, other)), True)
                self.assertIs(is_partition(meet_of(one, other)), True)
                self.assertIs(is_partition(join_of(one, other)), True)

    def test_large_diagrams_give_partitions_with_joins(self):
        for diagram in large_diagrams():
            partition = partition_of(diagram)
            size = len(diagram)
            other = complement(partition)
            self.assertEqual(join_of(partition, other), join_by_merging(partition, other))
            self.assertEqual(meet_of(partition, partition), partition)
            self.assertEqual(join_of(partition, (tuple(range(1, size + 1)),)), (tuple(range(1, size + 1)),))


if __name__ == "__main__":
    unittest.main()
