"""What decided a gap in a log from the whole list."""

from latelink.gaps import check_gap, gap_state
from latelink.links import Links
from latelink.replay import replay


def writers(size, log):
    """Returns two lists over all gaps: the last write of the right link of v, and of the left link of v + 1, or -1."""
    touched = _links_of_operations(size, log)
    right_writes = [-1] * (size + 1)
    left_writes = [-1] * (size + 1)
    for index, (_, low, high) in enumerate(touched):
        right_writes[low] = index
        left_writes[high - 1] = index
    return right_writes, left_writes


def last_actor(size, log, gap):
    """Returns (index, node, held) of the last operation on a side of the gap, or None."""
    touched = _links_of_operations(size, log)
    check_gap(size, gap)
    actor = None
    for index, (node, low, high) in enumerate(touched):
        if node == gap:
            actor = (index, node, high == gap + 1)
        elif node == gap + 1:
            actor = (index, node, low == gap)
    return actor


def foreign_after(size, log, gap):
    """Returns the index of the first foreign touch of the gap after its last actor, or None."""
    actor = last_actor(size, log, gap)
    start = 0 if actor is None else actor[0] + 1
    for index, (_, low, high) in enumerate(_links_of_operations(size, log)):
        # From the start on, no operation is on a side of the gap, so every touch is foreign.
        if index >= start and (low == gap or high == gap + 1):
            return index
    return None


def decided_by(size, log, gap):
    """Returns the index of the last operation that changed the state of the gap, or -1."""
    replay(size, log)
    links = Links(size)
    state = gap_state(links, gap)
    decided = -1
    for index, operation in enumerate(log):
        links.apply(operation)
        before = state
        state = gap_state(links, gap)
        if state != before:
            decided = index
    return decided


def _links_of_operations(size, log):
    """Returns (node, left link, right link) for each operation, at its moment."""
    links = Links(size)
    touched = []
    for index, operation in enumerate(log):
        links.apply_at(operation, index)
        # The links of the node itself are the same before and after its operation.
        node = abs(operation)
        touched.append((node, links.left(node), links.right(node)))
    return touched
