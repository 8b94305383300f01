"""Logs in which each node goes at most once, and their late writes."""

from latelink.errors import NotOnce
from latelink.links import Links
from latelink.replay import replay


def late_writes(size, log):
    """Returns the pairs (index, gap) of the late writes of the once-only log, ascending."""
    _check_once(size, log)
    links = Links(size)
    found = []
    for index, operation in enumerate(log):
        found.extend([(index, gap) for gap in _late_gaps(links, log[:index], operation)])
        links.apply(operation)
    return found


def is_complete(size, log):
    """True exactly if every node that acts in the once-only log is back at its end."""
    _check_once(size, log)
    return len(replay(size, log).outs()) == 0


def safe_next(size, log):
    """Returns the operations, by ascending node, that the once-only log can go on with without a late write."""
    _check_once(size, log)
    links = replay(size, log)
    # A node that is in and has been unlinked is back, and does not go again.
    nodes = [node for node in range(1, size + 1) if links.is_out(node) or -node not in log]
    operations = [node if links.is_out(node) else -node for node in nodes]
    return [operation for operation in operations if not _late_gaps(links, log, operation)]


def _check_once(size, log):
    """Raises an error unless the log is once-only."""
    replay(size, log)
    for index, operation in enumerate(log):
        # In a legal log there are no more relinks of a node than unlinks.
        if operation < 0 and operation in log[:index]:
            raise NotOnce(index)


def _late_gaps(links, earlier, operation):
    """Returns the gaps at which the operation, after the earlier ones, is a late write, ascending."""
    node = abs(operation)
    low = links.left(node)
    high = links.right(node)
    late = []
    # A node is back exactly if its relink is among the earlier operations. No sentinel has one.
    if low != node - 1 and low + 1 in earlier:
        late.append(low)
    if high != node + 1 and high - 1 in earlier:
        late.append(high - 1)
    return late
