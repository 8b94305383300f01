"""How far two checked standings of one size are from each other in the checked mode."""

from latelink.errors import LinkError, SizeMismatch, TooMany
from latelink.forest import Forest
from latelink.links import check_size

MOST_STEPS = 12


def kept(a, b):
    """Returns the nodes that are out in both forests with the same links, above kept nodes only, ascending."""
    _check_sizes(a, b)
    here = a.links()
    there = b.links()
    stay = []
    # The nodes below a node have fewer nodes below them, so they are looked at first.
    for node in sorted(here.outs(), key=lambda out: len(a.below(out))):
        is_same = node in b and here.left(node) == there.left(node) and here.right(node) == there.right(node)
        if is_same and all([other in stay for other in a.below(node)]):
            stay.append(node)
    return sorted(stay)


def distance(a, b):
    """Returns the least number of operations of the checked mode that lead from the first forest to the second."""
    return len(_not_kept(a, b)) + len(_not_kept(b, a))


def reaches_in(a, b, many):
    """True exactly if a log of the checked mode of exactly so many operations leads from the first to the second."""
    detour = many - distance(a, b)
    if a.size == 0:
        return detour == 0
    return detour >= 0 and detour % 2 == 0


def first_plan(a, b):
    """Returns the first least plan: it relinks all that it has to relink, and then it unlinks."""
    plan = []
    relinks = _not_kept(a, b)
    while relinks:
        # A node becomes a top by the relink of its parent.
        tops = [node for node in relinks if a.parent(node) not in relinks]
        plan.append(tops[0])
        relinks.remove(tops[0])
    unlinks = _not_kept(b, a)
    while unlinks:
        ready = [node for node in unlinks if not any([other in unlinks for other in b.below(node)])]
        plan.append(-ready[0])
        unlinks.remove(ready[0])
    return plan


def is_plan(a, b, log):
    """True exactly if the log is a least plan."""
    if len(log) != distance(a, b):
        return False
    here = a
    try:
        for operation in log:
            here = here.relinked(operation) if operation > 0 else here.unlinked(-operation)
    except LinkError:
        return False
    return here == b


def count_plans(a, b):
    """Returns the number of least plans."""
    if distance(a, b) > MOST_STEPS:
        raise TooMany(MOST_STEPS)
    return _count_orders(_needs(a, b))


def widest(size):
    """Returns the greatest distance on the size."""
    check_size(size)
    return size if size < 2 else 2 * size


def far_pair(size):
    """Returns a pair of forests at the greatest distance."""
    check_size(size)
    nodes = list(range(1, size + 1))
    # On size 1 both removals would lead to the same forest.
    return Forest.after(size, nodes), Forest.after(size, nodes[::-1] if size > 1 else [])


def _check_sizes(a, b):
    if a.size != b.size:
        raise SizeMismatch(a.size, b.size)


def _not_kept(a, b):
    """Returns the nodes that are out in the first forest and not kept, ascending."""
    stay = kept(a, b)
    return [node for node in range(1, a.size + 1) if node in a and node not in stay]


def _needs(a, b):
    """Returns, for each operation of the least plans, the bits of the places of those that come directly before it."""
    here = a.links()
    there = b.links()
    operations = _not_kept(a, b) + [-node for node in _not_kept(b, a)]
    needs = []
    for second in operations:
        earlier = [_comes_before(first, second, here, there) for first in operations]
        needs.append(sum([1 << place for place, is_earlier in enumerate(earlier) if is_earlier]))
    return needs


def _comes_before(first, second, here, there):
    """True if the second operation of a least plan needs what the first one does, or spoils what the first one needs.

    A node is relinked between the links that it has here, and unlinked between those that it has there. These must
    be in at that moment, and all nodes between them must be out.
    """
    node = abs(first)
    other = abs(second)
    if second > 0:
        return first > 0 and node in (here.left(other), here.right(other))
    if first > 0:
        return other in (node, here.left(node), here.right(node)) or node in (there.left(other), there.right(other))
    return node != other and there.left(other) < node < there.right(other)


def _count_orders(needs):
    """Returns the number of orders of the places in which each comes behind all those that it needs."""
    # For each set of places, as bits: the number of orders in which these can come first.
    ways = [1] + [0] * ((1 << len(needs)) - 1)
    for done in range(len(ways)):
        for place, need in enumerate(needs):
            step = 1 << place
            if (done & step) == 0 and (done & need) == need:
                ways[done + step] = ways[done + step] + ways[done]
    return ways[-1]
