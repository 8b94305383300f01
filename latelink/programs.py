"""Programs of sessions that work on one list, and schedules, in which they take turns."""

from math import comb

from latelink.errors import BadProgram, BadSchedule
from latelink.links import Links, check_size
from latelink.ops import blocks


def is_stack(program):
    """True exactly if each relink is of the node that was unlinked last among those that are out."""
    stack = []
    for operation in program:
        if operation < 0:
            stack.append(-operation)
        elif stack[-1:] == [operation]:
            stack.pop()
        else:
            return False
    return True


def count_schedules(size, programs):
    """Returns the number of complete schedules."""
    check_programs(size, programs)
    ways = 1
    length = 0
    for program in programs:
        # The operations of one more session go to any places among those of the sessions before.
        length = length + len(program)
        ways = ways * comb(length, len(program))
    return ways


def weave(size, *programs, schedule):
    """Returns the log of the schedule, which need not be complete."""
    check_programs(size, programs)
    done = [0] * len(programs)
    log = []
    for index, session in enumerate(schedule):
        if not 0 <= session < len(programs) or done[session] == len(programs[session]):
            raise BadSchedule(index)
        log.append(programs[session][done[session]])
        done[session] += 1
    return log


def groups(size, programs):
    """Returns the classes of sessions that belong together, in the order of their least sessions."""
    check_programs(size, programs)
    operations = [operation for program in programs for operation in program]
    # For each session the least one that it is known to belong together with.
    least = list(range(len(programs)))
    for low, high in blocks(size, operations):
        joined = [least[session] for session, program in enumerate(programs) if _acts_within(program, low, high)]
        least = [min(joined) if first in joined else first for first in least]
    found = {}
    for session, first in enumerate(least):
        found.setdefault(first, []).append(session)
    return list(found.values())


def check_programs(size, programs):
    """Raises an error unless the size is one and each program is right."""
    check_size(size)
    taken = {}
    for session, program in enumerate(programs):
        index = _first_wrong(size, program, taken)
        if index is not None:
            raise BadProgram(session, index)
        for operation in program:
            taken[abs(operation)] = True


def next_operations(programs, positions):
    """Returns, for each session that has not ended at these positions, the pair of it and its next operation."""
    return [(session, program[position]) for session, (program, position) in enumerate(zip(programs, positions))
            if position < len(program)]


def _acts_within(program, low, high):
    return any([low <= abs(operation) <= high for operation in program])


def _first_wrong(size, program, taken):
    """Returns the index at which the program is wrong beside those that have taken these nodes, or None."""
    links = Links(size)
    for index, operation in enumerate(program):
        is_operation = 1 <= abs(operation) <= size
        if not is_operation or abs(operation) in taken or not links.is_legal(operation):
            return index
        links.apply(operation)
    return len(program) if links.outs() else None
