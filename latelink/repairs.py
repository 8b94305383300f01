"""Repairs: logs that lead from a standing to the whole list."""

from latelink.debts import check_repairable, debt_of, due_nodes
from latelink.errors import BadCount, BadNode, Barred, LogError, TooMany
from latelink.gaps import foreign_writes, gap_state, left_to
from latelink.replay import play

MOST_DEBT = 12


def first_repair(links):
    """Returns the least repair whose nodes come first."""
    return repairs(links, most=1)[0]


def repairs(links, *, most=20):
    """Returns the first least repairs, at most as many as asked for, in the order of their nodes."""
    if most < 1:
        raise BadCount(most)
    check_repairable(links)
    found = []
    # Each entry: the standing before the last operation of a log, the log, and the nodes that are due after it. The
    # log that comes first is at the end. No log is in vain, since from each standing on the way one can go on.
    waiting = [(links, [], due_nodes(links))]
    while waiting and len(found) < most:
        before, log, due = waiting.pop()
        here = play(before, log[-1:])
        if not due:
            found.append(log)
        for operation in reversed(_steps(here, due)):
            waiting.append((here, log + [operation], _still_due(due, operation)))
    return found


def count_repairs(links):
    """Returns the number of least repairs."""
    debt = debt_of(links)
    if debt > MOST_DEBT:
        raise TooMany(MOST_DEBT)
    # After each number of operations: the standings that least repairs pass, with the nodes that are due there and
    # the number of ways to get there.
    level = {links.key(): (links, due_nodes(links), 1)}
    for _ in range(debt):
        level = _next_level(level)
    return sum([ways for _, _, ways in level.values()])


def is_repair(links, log):
    """True exactly if the log is legal from the standing and leads to the whole list."""
    try:
        return play(links, log).is_whole()
    except LogError:
        return False


def is_least_repair(links, log):
    """True exactly if the log is a repair and none is shorter."""
    # Where there is a repair, no gap is lost, so there is a debt.
    return is_repair(links, log) and len(log) == debt_of(links)


def repair_within(links, allowed):
    """Returns the first repair if all of its nodes are allowed to act."""
    for node in allowed:
        if not 1 <= node <= links.size:
            raise BadNode(node)
    check_repairable(links)
    for node in due_nodes(links):
        if node not in allowed:
            raise Barred(node)
    return first_repair(links)


def _steps(links, due):
    """Returns the operations that lower the debt by one and lose no gap, by ascending node."""
    operations = [node if links.is_out(node) else -node for node in due]
    return [operation for operation in operations if _spoils_nothing(links, operation, due)]


def _spoils_nothing(links, operation, due):
    """True exactly if no foreign write of the operation loses a gap or makes a node due."""
    for gap in foreign_writes(links, operation):
        if gap_state(links, gap) != "joined" or left_to(operation, gap) not in due:
            return False
    return True


def _still_due(due, operation):
    # An unlink leaves its node due, for now it is out.
    return due if operation < 0 else [node for node in due if node != operation]


def _next_level(level):
    further = {}
    for links, due, ways in level.values():
        for operation in _steps(links, due):
            after = play(links, [operation])
            key = after.key()
            earlier_ways = further[key][2] if key in further else 0
            further[key] = (after, _still_due(due, operation), earlier_ways + ways)
    return further
