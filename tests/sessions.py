"""A second account of sessions, from the document alone: it goes through their schedules one by one."""

import random
from itertools import product

from tests.model import Model, after, is_legal


def wrong_at(size, programs):
    """Point 39: the pair of a session and an index at which the programs are wrong, or None."""
    for session, program in enumerate(programs):
        earlier = {abs(operation) for other in programs[:session] for operation in other}
        for index, operation in enumerate(program):
            x = abs(operation)
            if not 1 <= x <= size or x in earlier or not is_legal(size, program[:index + 1]):
                return session, index
        if after(size, program).out:
            return session, len(program)
    return None


def programs_on(nodes, longest):
    """All right programs of up to this length on some of these nodes."""
    size = max(nodes, default=0)
    for length in range(longest + 1):
        for chosen in product(nodes, repeat=length):
            program = []
            for node in chosen:
                program.append(node if -node in program and program.count(-node) > program.count(node) else -node)
            if not after(size, program).out:
                yield program


def some_programs(size, lengths, many):
    """Random right programs of one session for each length, on nodes of their own."""
    dice = random.Random(repr((size, lengths)))
    while many > 0:
        owners = [dice.randrange(len(lengths)) for _ in range(size)]
        programs = [random_program([x for x, owner in enumerate(owners, 1) if owner == session], length, dice)
                    for session, length in enumerate(lengths)]
        if None not in programs:
            many -= 1
            yield programs


def random_program(nodes, length, dice):
    """A right program of this length on some of the nodes, or None if there is none."""
    program, out = [], []
    for left in range(length, 0, -1):
        if len(out) == left or (out and dice.random() < 0.4):
            node = dice.choice(out)
        elif len(out) < min(left, len(nodes)):
            node = dice.choice([node for node in nodes if node not in out])
        elif out:
            node = dice.choice(out)
        else:
            return None
        program.append(node if node in out else -node)
        out = [other for other in out if other != node] if node in out else out + [node]
    return program if not out else None


def complete_schedules(programs, done=None):
    """All complete schedules, in the order in which they are compared."""
    done = [0] * len(programs) if done is None else done
    steps = [session for session, program in enumerate(programs) if done[session] < len(program)]
    if not steps:
        yield []
    for session in steps:
        later = [count + (session == other) for other, count in enumerate(done)]
        for schedule in complete_schedules(programs, later):
            yield [session] + schedule


def weaving(programs, schedule):
    rest = [list(program) for program in programs]
    return [rest[session].pop(0) for session in schedule]


def bad_schedules(size, programs):
    whole = Model(size).dump()
    return [schedule for schedule in complete_schedules(programs)
            if after(size, weaving(programs, schedule)).dump() != whole]


def reached_rows(size, programs):
    """Point 40: what the schedules reach, as the rows of the safety table."""
    rows = set()
    for schedule in complete_schedules(programs):
        for length in range(len(schedule) + 1):
            begun = schedule[:length]
            positions = tuple(begun.count(session) for session in range(len(programs)))
            rows.add((positions, after(size, weaving(programs, begun)).dump()))
    return sorted(rows)


def waiting_schedules(size, programs, mode):
    """Point 42: the stuck and the refused schedules, each by length and then in the order of their entries."""
    stuck, refused = [], []
    level = [[]]
    while level:
        further = []
        for schedule in level:
            model = after(size, weaving(programs, schedule))
            steps = next_steps(programs, schedule)
            waits = [session for session, operation in steps if mode in model.refused_by(operation)]
            refused.extend(schedule + [session] for session in waits)
            if steps and len(waits) == len(steps):
                stuck.append(schedule)
            further.extend(schedule + [session] for session, _ in steps if session not in waits)
        level = further
    return sorted(stuck, key=lambda schedule: (len(schedule), schedule)), sorted(
        refused, key=lambda schedule: (len(schedule), schedule))


def next_steps(programs, schedule):
    """The sessions that have not ended after the schedule, each with its next operation."""
    return [(session, program[schedule.count(session)]) for session, program in enumerate(programs)
            if schedule.count(session) < len(program)]


def run_by_definition(size, programs, mode, turn):
    """Point 45: the schedule of the run, and whether all sessions have ended."""
    schedule = []
    while next_steps(programs, schedule):
        model = after(size, weaving(programs, schedule))
        ready = [session for session, operation in next_steps(programs, schedule)
                 if mode not in model.refused_by(operation)]
        if not ready:
            return schedule, False
        behind = schedule[-1] + 1 if schedule and turn == "round" else 0
        cycle = [(behind + k) % len(programs) for k in range(len(programs))]
        schedule.append(next(session for session in cycle if session in ready))
    return schedule, True


def small_programs():
    """Sizes with programs of one to three sessions, from all nodes of small lists."""
    for size, owners in [(1, "0"), (2, "00"), (2, "01"), (2, "10"), (3, "011"), (3, "101"), (3, "001"), (3, "010")]:
        nodes = [[x for x, owner in enumerate(owners, 1) if int(owner) == session] for session in (0, 1)]
        for first in programs_on(nodes[0], 4):
            for second in programs_on(nodes[1], 4):
                yield size, [first, second] if nodes[1] else [first]
    for lengths in ((4, 4), (2, 6), (2, 2, 2), (4, 2, 2)):
        for programs in some_programs(4, lengths, 12):
            yield 4, programs
    for programs in some_programs(6, (2, 2, 2), 12):
        yield 6, programs
    for programs in some_programs(5, (4, 4), 12):
        yield 5, programs
