"""Sketches: logs with unknown operations, for which 0 stands."""

from latelink.errors import NoFit, TooMany
from latelink.facts import check_facts, is_true
from latelink.gaps import gap_states
from latelink.links import Links, check_operation, check_size
from latelink.modes import mode_named
from latelink.replay import play

MOST_CHOICES = 4096


def readings(size, sketch, facts, *, mode="free"):
    """Returns the logs that the sketch can stand for, in the order of their nodes."""
    logs = [_filled(sketch, filling) for _, fillings in _ends(size, sketch, facts, mode) for filling in fillings]
    return sorted(logs, key=_nodes)


def settled_gaps(size, sketch, facts, *, mode="free"):
    """Returns for each gap the state that it has after all readings, or "open"."""
    rows = [gap_states(links) for links, _ in _ends(size, sketch, facts, mode)]
    if not rows:
        raise NoFit(size)
    return [states[0] if len(set(states)) == 1 else "open" for states in zip(*rows)]


def _check(size, sketch, facts, mode):
    check_size(size)
    mode_named(mode)
    for index, operation in enumerate(sketch):
        if operation != 0:
            check_operation(size, operation, index)
    check_facts(size, facts)
    choices = 1
    for _ in range(sketch.count(0)):
        choices = choices * size
        if choices > MOST_CHOICES:
            raise TooMany(MOST_CHOICES)


def _ends(size, sketch, facts, mode):
    """Returns the standings after the readings, each once, with the operations that the zeros stand for in those that
    lead to it."""
    _check(size, sketch, facts, mode)
    judge = mode_named(mode)
    ends = [(Links(size), [[]])]
    for operation in sketch:
        ends = _after_unknown(ends, judge) if operation == 0 else _after_known(ends, operation, judge)
    return [(links, fillings) for links, fillings in ends if all([is_true(links, fact) for fact in facts])]


def _after_known(ends, operation, judge):
    return [(play(links, [operation]), fillings) for links, fillings in ends if _can_follow(links, operation, judge)]


def _after_unknown(ends, judge):
    further = {}
    for links, fillings in ends:
        for node in range(1, links.size + 1):
            operation = node if links.is_out(node) else -node
            if _can_follow(links, operation, judge):
                after = play(links, [operation])
                key = after.key()
                if key not in further:
                    further[key] = (after, [])
                further[key][1].extend([filling + [operation] for filling in fillings])
    return list(further.values())


def _can_follow(links, operation, judge):
    return links.is_legal(operation) and judge.refusal(links, operation) == ""


def _filled(sketch, filling):
    """Returns the sketch with the operations of the filling in the places of its zeros."""
    log = list(sketch)
    places = [index for index, operation in enumerate(sketch) if operation == 0]
    for index, operation in zip(places, filling):
        log[index] = operation
    return log


def _nodes(log):
    return [abs(operation) for operation in log]
