"""Gaps: who holds them, and how an operation changes them."""

from latelink.errors import BadGap
from latelink.replay import play


def gap_state(links, gap):
    """Returns the state of the gap: "joined", "left", "right" or "lost"."""
    check_gap(links.size, gap)
    is_held_left = links.right(gap) == gap + 1
    is_held_right = links.left(gap + 1) == gap
    if is_held_left:
        return "joined" if is_held_right else "left"
    return "right" if is_held_right else "lost"


def gap_states(links):
    """Returns the states of all gaps, ascending."""
    return [gap_state(links, gap) for gap in range(links.size + 1)]


def lost_gaps(links):
    """Returns the lost gaps, ascending."""
    return [gap for gap, state in enumerate(gap_states(links)) if state == "lost"]


def sole_holders(links):
    """Returns the nodes, in and out, that hold a gap which the other side does not hold, ascending."""
    holders = set()
    # The first gap is never held by the head alone, nor the last one by the tail alone: the left link of node 1 can
    # only be 0, and the right link of the last node can only be the tail. So no holder is a sentinel.
    for gap, state in enumerate(gap_states(links)):
        if state in ("left", "right"):
            holders.add(gap if state == "left" else gap + 1)
    return sorted(holders)


def gap_changes(links, operation):
    """Returns the triples (gap, before, after) of the gaps that the operation would change, ascending."""
    before = gap_states(links)
    after = gap_states(play(links, [operation]))
    return [(gap, before[gap], after[gap]) for gap in range(links.size + 1) if before[gap] != after[gap]]


def foreign_writes(links, operation):
    """Returns the gaps at which the operation would make a foreign write, ascending."""
    links.check(operation, 0)
    node = abs(operation)
    low = links.left(node)
    high = links.right(node)
    written = []
    if low != node - 1 and links.right(low) == low + 1:
        written.append(low)
    if high != node + 1 and links.left(high) == high - 1:
        written.append(high - 1)
    return written


def left_to(operation, gap):
    """Returns the node that alone can still hold the gap after a foreign write of the operation there."""
    # The link that is overwritten is that of the side farther from the node of the operation.
    return gap + 1 if gap < abs(operation) else gap


def check_gap(size, gap):
    """Raises BadGap unless the integer is a gap of a list of the size."""
    if not 0 <= gap <= size:
        raise BadGap(gap)
