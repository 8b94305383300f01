"""Removals, and the orders in which their nodes can safely return."""

from itertools import permutations
from math import factorial

from latelink.debts import can_finish
from latelink.errors import BadCount, BadOrder, BadRemoval, TooMany
from latelink.links import Links, check_size
from latelink.once import safe_next
from latelink.repairs import count_repairs
from latelink.replay import play, replay

MOST_REMOVED = 8
MOST_SIZE = 4


def is_safe_return(size, removal, order):
    """True exactly if the list is whole after the removed nodes have been relinked in this order."""
    links = after_removal(size, removal)
    for index, node in enumerate(order):
        if node not in removal or node in order[:index]:
            raise BadOrder(index)
    if len(order) < len(removal):
        raise BadOrder(len(order))
    return play(links, order).is_whole()


def count_returns(size, removal):
    """Returns the number of safe orders of return."""
    return count_repairs(_after_short_removal(size, removal))


def first_unsafe(size, removal):
    """Returns the first order of return that is not safe, or None."""
    links = _after_short_removal(size, removal)
    if _is_safe_in_each_order(links):
        return None
    order = []
    while links.outs():
        # Some order is not safe from here, so after one of these relinks some order is not safe.
        unsafe = [node for node in links.outs() if not _is_safe_in_each_order(play(links, [node]))]
        order.append(unsafe[0])
        links = play(links, unsafe[:1])
    return order


def chain_returns(count):
    """Returns the number of safe returns of the removal of 1, 2, .. up to the count."""
    if not 0 <= count <= Links.MOST:
        raise BadCount(count)
    if count == 0:
        return 1
    # The nodes before node 1, in any order, part the numbers of the others into one run more than they are, some of
    # them empty; each run must ascend. So an order is known when for each place behind node 1 the run is known.
    total = 0
    for before in range(count):
        total = total + factorial(before) * _power(before + 1, count - 1 - before)
    return total


def is_chain_return(order):
    """True exactly if no node x from 3 on stands behind node 1 and before node x - 1."""
    places = {}
    for index, node in enumerate(order):
        if not 1 <= node <= len(order) or node in places:
            raise BadOrder(index)
        places[node] = index
    return not any([places[1] < places[node] < places[node - 1] for node in range(3, len(order) + 1)])


def count_pairs(size):
    """Returns the number of pairs of a removal of all nodes and a safe order of return."""
    _check_small(size)
    return sum([count_returns(size, removal) for removal in permutations(range(1, size + 1))])


def count_once(size):
    """Returns the number of complete once-only logs of all nodes after which the list is whole."""
    _check_small(size)
    # The list is whole after such a log exactly if it has no late write. After each number of operations: one log
    # without late writes for each standing and each choice of nodes that are back, and the number of such logs. All
    # of them can go on in the same way.
    level = {(): ([], 1)}
    for _ in range(2 * size):
        level = _next_level(size, level)
    return sum([ways for _, ways in level.values()])


def after_removal(size, removal):
    """Returns the standing after the unlinks of these nodes in this order."""
    links = Links(size)
    for index, node in enumerate(removal):
        if node not in links:
            raise BadRemoval(index)
        links.apply(-node)
    return links


def _after_short_removal(size, removal):
    links = after_removal(size, removal)
    if len(removal) > MOST_REMOVED:
        raise TooMany(MOST_REMOVED)
    return links


def _is_safe_in_each_order(links):
    """True exactly if the nodes that are out can be relinked in each order, and the list is whole after it."""
    return can_finish(links) and count_repairs(links) == factorial(len(links.outs()))


def _power(base, exponent):
    result = 1
    for _ in range(exponent):
        result = result * base
    return result


def _check_small(size):
    check_size(size)
    if size > MOST_SIZE:
        raise TooMany(MOST_SIZE)


def _next_level(size, level):
    further = {}
    for log, ways in level.values():
        for operation in safe_next(size, log):
            after = log + [operation]
            backs = tuple(sorted([node for node in after if node > 0]))
            key = (replay(size, after).key(), backs)
            earlier_ways = further[key][1] if key in further else 0
            further[key] = (after, earlier_ways + ways)
    return further
