"""Where two modes differ: the least log that one of them admits and the other one does not."""

from latelink.links import check_size
from latelink.modes import mode_named

# For each mode but the weakest, from the strictest on: the least log whose last operation it refuses and no weaker
# mode does. Each of these logs stands on the smallest size that has its nodes; on smaller sizes the modes are alike.
PARTING_LOGS = {
    "checked": (-1, -2, 1),
    "guarded": (-1, -2, 1, -3),
    "saving": (-2, -3, 2, -1, -4),
}


def least_parting(size, mode, other):
    """Returns the least parting log of the two modes on the size, or None."""
    check_size(size)
    mode_named(mode)
    mode_named(other)
    for stricter, log in PARTING_LOGS.items():
        if mode != other and stricter in (mode, other):
            return list(log) if size >= max([abs(operation) for operation in log]) else None
    return None


def alike(size, mode, other):
    """True exactly if the two modes admit the same logs on the size."""
    return least_parting(size, mode, other) is None
