"""Modes: which legal operations are admitted."""

from latelink.errors import BadMode, Refused
from latelink.gaps import foreign_writes, gap_state, left_to
from latelink.links import Links, check_size
from latelink.replay import replay


class FreeMode:
    """Refuses nothing."""

    NAME = "free"

    def refusal(self, links, operation):
        """Returns the name of the weakest mode, up to this one, that refuses the operation, or the empty text."""
        links.check(operation, 0)
        return ""


class SavingMode(FreeMode):
    """Refuses an operation that loses a gap."""

    NAME = "saving"

    def refusal(self, links, operation):
        """Returns the name of the weakest mode, up to this one, that refuses the operation, or the empty text."""
        refusing = super().refusal(links, operation)
        if refusing == "" and _loses_a_gap(links, operation):
            return SavingMode.NAME
        return refusing


class GuardedMode(SavingMode):
    """Refuses a foreign write that leaves a gap to no one, or to a holder that is in."""

    NAME = "guarded"

    def refusal(self, links, operation):
        """Returns the name of the weakest mode, up to this one, that refuses the operation, or the empty text."""
        refusing = super().refusal(links, operation)
        if refusing == "" and _leaves_a_gap_to_a_holder_that_is_in(links, operation):
            return GuardedMode.NAME
        return refusing


class CheckedMode(GuardedMode):
    """Refuses an operation on a node whose two neighbours are not linked as the operation takes for granted."""

    NAME = "checked"

    def refusal(self, links, operation):
        """Returns the name of the weakest mode, up to this one, that refuses the operation, or the empty text."""
        refusing = super().refusal(links, operation)
        if refusing == "" and not _has_fitting_neighbours(links, operation):
            return CheckedMode.NAME
        return refusing


def mode_named(mode):
    """Returns an object of the class with this name."""
    for known in all_modes():
        if known.NAME == mode:
            return known
    raise BadMode(mode)


def all_modes():
    """Returns an object of each class, from the weakest mode on."""
    return [FreeMode(), SavingMode(), GuardedMode(), CheckedMode()]


def admits(links, operation, *, mode="free"):
    """True exactly if the mode admits the operation on the standing."""
    return mode_named(mode).refusal(links, operation) == ""


def admitted(links, *, mode="free"):
    """Returns the legal operations that the mode admits on the standing, by ascending node."""
    mode_named(mode)
    legal = [node if links.is_out(node) else -node for node in range(1, links.size + 1)]
    return [operation for operation in legal if admits(links, operation, mode=mode)]


def replay_in(size, log, *, mode="free"):
    """Returns the standing after the log from the whole list, all of whose operations the mode admits."""
    links = Links(size)
    judge = mode_named(mode)
    for index, operation in enumerate(log):
        check_admitted(links, operation, index, judge)
        links.apply(operation)
    return links


def first_refusal(size, log, *, mode="free"):
    """Returns the index of the first operation of the log that the mode refuses, or None."""
    check_size(size)
    judge = mode_named(mode)
    # An error is due anywhere in the log, also behind the first refusal.
    replay(size, log)
    links = Links(size)
    for index, operation in enumerate(log):
        if judge.refusal(links, operation) != "":
            return index
        links.apply(operation)
    return None


def check_admitted(links, operation, index, judge):
    """Raises an error, with this index, unless the operation can be applied and the mode, an object, admits it."""
    links.check(operation, index)
    refusing = judge.refusal(links, operation)
    if refusing != "":
        raise Refused(operation, index, refusing)


def _loses_a_gap(links, operation):
    # Only a foreign write loses a gap, and only one that had no other holder.
    return any([gap_state(links, gap) != "joined" for gap in foreign_writes(links, operation)])


def _leaves_a_gap_to_a_holder_that_is_in(links, operation):
    """True exactly if an operation that the saving mode admits makes such a foreign write."""
    return any([not links.is_out(left_to(operation, gap)) for gap in foreign_writes(links, operation)])


def _has_fitting_neighbours(links, operation):
    node = abs(operation)
    low = links.left(node)
    high = links.right(node)
    if links.is_out(low) or links.is_out(high):
        return False
    if operation < 0:
        return links.right(low) == node and links.left(high) == node
    return links.right(low) == high and links.left(high) == low
