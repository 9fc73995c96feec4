"""Non-crossing partitions, their diagrams, and their order."""

from chordturn.checks import is_integer_within, validate_same_size
from chordturn.diagrams import rotate, validate_diagram
from chordturn.errors import InvalidPartition, InvalidPoint
from chordturn.words import MOST_SIZE


def validate_partition(partition):
    """Raise InvalidPartition if a value of any kind is not a non-crossing partition."""
    if not _has_blocks(partition):
        raise InvalidPartition(None)
    size = _item_count(partition)
    for index, block in enumerate(partition):
        if not _is_ascending(block, size) or not _fits_behind(block, partition[:index]):
            raise InvalidPartition(index)


def _has_blocks(value):
    """Return whether a value is a tuple of tuples that are not empty and together not too large."""
    if not isinstance(value, tuple):
        return False
    for block in value:
        if not isinstance(block, tuple) or len(block) == 0:
            return False
    return _item_count(value) <= MOST_SIZE


def _item_count(partition):
    """Return the number of all items, which is the size of a partition."""
    return sum([len(block) for block in partition])


def _is_ascending(block, size):
    """Return whether a tuple holds integers from 1 to the size in strictly ascending order."""
    before = 0
    for item in block:
        if not is_integer_within(item, before + 1, size):
            return False
        before = item
    return True


def _fits_behind(block, earlier):
    """Return whether an ascending block can stand behind the earlier blocks of a partition."""
    if earlier and block[0] <= earlier[-1][0]:
        return False
    return not any([_touch(other, block) for other in earlier])


def _touch(one, other):
    """Return whether two blocks share an item or cross."""
    if any([item in one for item in other]):
        return True
    gaps = [_gap(one, item) for item in other]
    return min(gaps) < max(gaps)


def _gap(block, item):
    """Return the number of the gap between the items of a block in which another item lies."""
    # On the circle, the places before the first and behind the last item are one gap.
    return len([smaller for smaller in block if smaller < item]) % len(block)


def is_partition(value):
    """Return whether a value of any kind is a non-crossing partition."""
    try:
        validate_partition(value)
    except InvalidPartition:
        return False
    return True


def diagram_of_partition(partition):
    """Return the diagram of a partition."""
    validate_partition(partition)
    chords = []
    for block in partition:
        for item, following in zip(block, block[1:] + block[:1]):
            ends = (2 * item, 2 * following - 1)
            chords.append((min(ends), max(ends)))
    return tuple(sorted(chords))


def partition_of(diagram):
    """Return the partition with this diagram."""
    validate_diagram(diagram)
    following = _following_items(diagram)
    blocks = []
    for item in range(1, len(diagram) + 1):
        if item in following:
            blocks.append(_take_block(following, item))
    return tuple(blocks)


def _following_items(diagram):
    """Return the dict from each item to the one that follows in its block, around the circle."""
    following = {}
    for low, high in diagram:
        even, odd = (high, low) if high % 2 == 0 else (low, high)
        following[even // 2] = (odd + 1) // 2
    return following


def _take_block(following, first):
    """Take the block that starts with an item out of the dict, and return it."""
    block = []
    item = first
    while item in following:
        block.append(item)
        item = following.pop(item)
    return tuple(block)


def complement(partition):
    """Return the complement of a partition."""
    return partition_of(rotate(diagram_of_partition(partition)))


def block_of(partition, item):
    """Return the block that contains an item."""
    validate_partition(partition)
    if not is_integer_within(item, 1, _item_count(partition)):
        raise InvalidPoint(item)
    return _block_with(partition, item)


def _block_with(partition, item):
    """Return the block of a valid partition that contains one of its items."""
    found = [block for block in partition if item in block]
    return found[0]


def is_finer(one, other):
    """Return whether each block of the one partition is contained in a block of the other one."""
    _validate_pair(one, other)
    for block in one:
        container = _block_with(other, block[0])
        if not all([item in container for item in block]):
            return False
    return True


def _validate_pair(one, other):
    """Raise the error that is due if two values are not partitions of the same size."""
    validate_partition(one)
    validate_partition(other)
    validate_same_size(_item_count(one), _item_count(other))


def meet_of(one, other):
    """Return the coarsest partition that is finer than both."""
    _validate_pair(one, other)
    blocks = []
    for block in one:
        for cutting in other:
            common = [item for item in block if item in cutting]
            if common:
                blocks.append(tuple(common))
    return tuple(sorted(blocks))


def join_of(one, other):
    """Return the finest partition that both are finer than."""
    _validate_pair(one, other)
    blocks = []
    for block in one + other:
        blocks = _merged(blocks, block)
    return tuple(sorted(blocks))


def _merged(blocks, added):
    """Return blocks that do not touch each other, of the blocks, which do not either, and the added one."""
    union = added
    waiting = list(blocks)
    apart = []
    while waiting:
        block = waiting.pop()
        if _touch(block, union):
            union = tuple(sorted(set(block + union)))
            # The union may touch a block that its parts did not touch.
            waiting.extend(apart)
            apart = []
        else:
            apart.append(block)
    return [*apart, union]


def partition_rank(partition):
    """Return the number of items minus the number of blocks."""
    validate_partition(partition)
    return _item_count(partition) - len(partition)
