"""Sessions that wait while a mode refuses their next operation."""

from latelink.errors import BadTurn, Stuck
from latelink.links import Links, check_size
from latelink.modes import admits, mode_named
from latelink.programs import check_programs, next_operations
from latelink.schedules import check_few, each_place

TURNS = ("first", "round")


def stuck_schedule(size, programs, *, mode="checked"):
    """Returns the first schedule after which all sessions that have not ended wait, or None."""
    _check(size, programs, mode)
    for positions, links, schedule in each_place(size, programs, mode):
        steps = next_operations(programs, positions)
        if steps and _next_step(links, steps, mode) is None:
            return schedule
    return None


def refused_schedule(size, programs, *, mode="checked"):
    """Returns the first schedule of which the mode admits all but the last operation, or None."""
    _check(size, programs, mode)
    for positions, links, schedule in each_place(size, programs, mode):
        for session, operation in next_operations(programs, positions):
            if not admits(links, operation, mode=mode):
                return schedule + [session]
    return None


def run(size, programs, *, mode="checked", turn="first"):
    """Returns the schedule in which the sessions go by themselves."""
    check_size(size)
    mode_named(mode)
    if turn not in TURNS:
        raise BadTurn(turn)
    check_programs(size, programs)
    links = Links(size)
    positions = [0] * len(programs)
    schedule = []
    while steps := next_operations(programs, positions):
        step = _next_step(links, _in_turn(steps, schedule, turn), mode)
        if step is None:
            raise Stuck(schedule)
        session, operation = step
        links.apply(operation)
        positions[session] += 1
        schedule.append(session)
    return schedule


def _check(size, programs, mode):
    check_size(size)
    mode_named(mode)
    check_few(size, programs)


def _in_turn(steps, schedule, turn):
    """Returns the steps, one for a session, in the order in which the turn asks for them."""
    if turn == "first" or not schedule:
        return steps
    return [step for step in steps if step[0] > schedule[-1]] + [step for step in steps if step[0] <= schedule[-1]]


def _next_step(links, steps, mode):
    """Returns the first of the steps whose operation the mode admits, or None."""
    for session, operation in steps:
        if admits(links, operation, mode=mode):
            return session, operation
    return None
