"""The fixed order of the checked standings of a size."""

from math import comb

from latelink.errors import BadRank
from latelink.forest import Forest
from latelink.links import check_size


def count_forests(size):
    """Returns the number of checked standings of the size."""
    check_size(size)
    return _count_rests(size)


def rank(forest):
    """Returns the number of checked standings of the same size that come before this one."""
    links = forest.links()
    before = 0
    low = 0
    while low <= links.size:
        high = links.right(low)
        rest = links.size - low
        first = high - low - 1
        tree = _rank_tree(links, low, high)
        before = before + sum(_first_blocks(rest)[:first]) + tree * _count_rests(rest - first - 1)
        low = high
    return before


def forest_at(size, place):
    """Returns the checked standing with this rank."""
    count = count_forests(size)
    if not 0 <= place < count:
        raise BadRank(place)
    removal = []
    low = 0
    while low <= size:
        rest = size - low
        first, place = locate(_first_blocks(rest), place)
        tree, place = divmod(place, _count_rests(rest - first - 1))
        removal.extend(_tree_at(low, first, tree))
        low = low + first + 1
    return Forest.after(size, removal)


def each_forest(size):
    """Yields the checked standings of the size in the order of their ranks."""
    for place in range(count_forests(size)):
        yield forest_at(size, place)


def _count_trees(count):
    """Returns the number of trees over so many nodes."""
    return comb(2 * count, count) // (count + 1)


def _count_rests(count):
    """Returns the number of standings of so many nodes; -1 if there is no rest, not even a first node that is in."""
    # A further node above all trees, one behind the other, makes a tree of them.
    return _count_trees(count + 1)


def _first_blocks(rest):
    """Returns the numbers of standings of so many nodes that have 0, 1, .. nodes before the first one that is in."""
    return [_count_trees(first) * _count_rests(rest - first - 1) for first in range(rest + 1)]


def _root_blocks(count):
    """Returns the numbers of trees over so many nodes whose root is at the first, the second, .. place."""
    return [_count_trees(place) * _count_trees(count - 1 - place) for place in range(count)]


def _rank_tree(links, low, high):
    """Returns the number of trees over the same range that come before the one of the standing."""
    if high == low + 1:
        return 0
    root = [node for node in range(low + 1, high) if links.left(node) == low and links.right(node) == high][0]
    before = sum(_root_blocks(high - low - 1)[:root - low - 1])
    left = _rank_tree(links, low, root)
    return before + left * _count_trees(high - root - 1) + _rank_tree(links, root, high)


def _tree_at(low, count, place):
    """Returns a removal of the count of nodes behind low that leads to the tree at this place."""
    if count == 0:
        return []
    before, place = locate(_root_blocks(count), place)
    left, right = divmod(place, _count_trees(count - 1 - before))
    root = low + before + 1
    return _tree_at(low, before, left) + _tree_at(root, count - 1 - before, right) + [root]


def locate(blocks, place):
    """Returns the index of the block that the place is in, if blocks of these lengths follow each other, and the
    place within this block."""
    index = 0
    while place >= blocks[index]:
        place = place - blocks[index]
        index += 1
    return index, place
