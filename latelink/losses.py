"""Certificates of loss: which two operations of a log lost a gap."""

from latelink.errors import NotLost
from latelink.gaps import gap_states
from latelink.links import Links
from latelink.verdicts import is_plain_integer


def loss_certificate(size, log):
    """Returns the triple (gap, first, second) for the least gap that is lost after the log."""
    certificates = _certificates(size, log)
    if not certificates:
        raise NotLost(size)
    return certificates[0]


def is_loss_certificate(size, log, value):
    """True exactly if the value, of whatever kind, is such a triple for any gap that is lost after the log."""
    certificates = _certificates(size, log)
    if not isinstance(value, tuple) or len(value) != 3:
        return False
    # 1 == True and 0 == False, but True and False are no integers here.
    return all([is_plain_integer(member) for member in value]) and value in certificates


def _certificates(size, log):
    """Returns the certificates of all gaps that are lost after the log, by ascending gap."""
    links = Links(size)
    states = gap_states(links)
    changes = [[] for _ in states]
    for index, operation in enumerate(log):
        links.apply_at(operation, index)
        before = states
        states = gap_states(links)
        for gap, state in enumerate(states):
            if state != before[gap]:
                changes[gap].append(index)
    # A gap is joined at first. It is lost only from the state "left" or "right", which it gets only when it was
    # joined, and it then stays lost: so its last two changes are those of the certificate.
    return [(gap, changes[gap][-2], changes[gap][-1]) for gap, state in enumerate(states) if state == "lost"]
