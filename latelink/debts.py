"""Debts: what a repair of a standing takes at least."""

from latelink.errors import BadWeights, NotRepairable
from latelink.gaps import lost_gaps, sole_holders


def is_repairable(links):
    """True exactly if no gap is lost."""
    return len(lost_gaps(links)) == 0


def due_nodes(links):
    """Returns the nodes that are out, or in and sole holders, ascending."""
    return sorted(set(links.outs()) | set(sole_holders(links)))


def debt_of(links):
    """Returns the least number of operations of a repair."""
    return repair_cost(links, [1] * links.size)


def can_finish(links):
    """True exactly if relinks alone can make the standing whole."""
    return is_repairable(links) and all([links.is_out(node) for node in sole_holders(links)])


def repair_cost(links, weights):
    """Returns the least cost of a repair, in which an operation costs the weight of its node."""
    if len(weights) != links.size or any([weight < 0 for weight in weights]):
        raise BadWeights(len(weights))
    check_repairable(links)
    # In a least repair a due node that is out acts once, and one that is in acts twice.
    return sum([weights[node - 1] * (1 if links.is_out(node) else 2) for node in due_nodes(links)])


def check_repairable(links):
    """Raises NotRepairable with the least lost gap, if there is one."""
    lost = lost_gaps(links)
    if lost:
        raise NotRepairable(lost[0])
