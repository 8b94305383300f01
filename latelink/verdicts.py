"""Verdicts of logs, and certificates of gaps."""

from latelink.gaps import gap_state, gap_states, lost_gaps
from latelink.links import Links
from latelink.replay import replay
from latelink.writers import decided_by, writers


class Verdict:
    """What a log leads to: the nodes that are out, and the least gap that is not joined with what decided it."""

    def __init__(self, out_nodes, gap, index):
        self.out_nodes = list(out_nodes)
        self.gap = gap
        self.index = index
        self.whole = gap is None and len(self.out_nodes) == 0


def verdict(size, log):
    """Returns the verdict of the log."""
    links = replay(size, log)
    for gap, state in enumerate(gap_states(links)):
        if state != "joined":
            return Verdict(links.outs(), gap, decided_by(size, log, gap))
    return Verdict(links.outs(), None, None)


def gap_certificate(size, log, gap):
    """Returns the triple (state, right_write, left_write) of the gap after the log."""
    right_writes, left_writes = writers(size, log)
    state = gap_state(replay(size, log), gap)
    return state, right_writes[gap], left_writes[gap]


def is_gap_certificate(size, log, gap, value):
    """True exactly if the value, of whatever kind, is the certificate of the gap after the log."""
    certificate = gap_certificate(size, log, gap)
    if not isinstance(value, tuple) or len(value) != 3:
        return False
    state, right_write, left_write = value
    # 1 == True and 0 == False, but True and False are no integers here.
    are_integers = is_plain_integer(right_write) and is_plain_integer(left_write)
    return isinstance(state, str) and are_integers and value == certificate


def first_loss(size, log):
    """Returns the index of the first operation after which a gap is lost, and the least such gap; or None."""
    links = Links(size)
    loss = None
    for index, operation in enumerate(log):
        links.apply_at(operation, index)
        # The rest of the log is still checked when the answer is known.
        lost = lost_gaps(links) if loss is None else []
        if lost:
            loss = (index, lost[0])
    return loss


def is_plain_integer(value):
    """True exactly if the value, of whatever kind, is an integer other than True and False."""
    return isinstance(value, int) and not isinstance(value, bool)
