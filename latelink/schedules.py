"""Whether programs of sessions are safe for all schedules, and tables that certify it."""

from latelink.errors import BadDump, TooMany, Unsafe
from latelink.links import Links
from latelink.modes import admits
from latelink.programs import check_programs, next_operations
from latelink.replay import play
from latelink.verdicts import is_plain_integer

MOST_POSITIONS = 150


def bad_schedule(size, programs):
    """Returns the first complete schedule after which the list is not whole, or None."""
    check_few(size, programs)
    for positions, links, schedule in each_place(size, programs, "free"):
        if not next_operations(programs, positions) and not links.is_whole():
            return schedule
    return None


def safe_table(size, programs):
    """Returns the safety table of the programs: all positions and standings that schedules reach, ascending."""
    schedule = bad_schedule(size, programs)
    if schedule is not None:
        raise Unsafe(schedule)
    return sorted([(positions, links.dump()) for positions, links, _ in each_place(size, programs, "free")])


def is_safe_table(size, programs, table):
    """True exactly if the table, whatever its members are, certifies that the programs are safe."""
    check_few(size, programs)
    if not all([_is_row(size, programs, row) for row in table]):
        return False
    rows = {row: True for row in table}
    start = (_no_steps(programs), Links(size).dump())
    return start in rows and all([_leads_on(programs, row, rows) for row in rows])


def check_few(size, programs):
    """Raises an error unless the programs are right and few enough to go through all their schedules."""
    check_programs(size, programs)
    count = 1
    for program in programs:
        count = count * (len(program) + 1)
    if count > MOST_POSITIONS:
        raise TooMany(MOST_POSITIONS)


def each_place(size, programs, mode):
    """Yields (positions, standing, least schedule) for all that admitted schedules reach, in the order of these."""
    level = [(_no_steps(programs), Links(size), [])]
    while level:
        yield from level
        level = _next_level(programs, level, mode)


def _no_steps(programs):
    return (0,) * len(programs)


def _after_step(positions, session):
    return positions[:session] + (positions[session] + 1,) + positions[session + 1:]


def _next_level(programs, level, mode):
    """Returns what one more admitted step reaches, each place once."""
    further = {}
    # A level is in the order of its least schedules, so the first schedule to a place is its least one.
    for positions, links, schedule in level:
        for session, operation in next_operations(programs, positions):
            if admits(links, operation, mode=mode):
                there = _after_step(positions, session)
                after = play(links, [operation])
                further.setdefault((there, after.key()), (there, after, schedule + [session]))
    return list(further.values())


def _is_row(size, programs, row):
    """True exactly if the value is a pair of positions within the programs and the dump of a standing of the size."""
    if not isinstance(row, tuple) or len(row) != 2:
        return False
    positions, dump = row
    if not isinstance(positions, tuple) or len(positions) != len(programs):
        return False
    if not all([is_plain_integer(position) for position in positions]):
        return False
    within = [0 <= position <= len(program) for position, program in zip(positions, programs)]
    return all(within) and isinstance(dump, str) and _is_dump(size, dump)


def _is_dump(size, text):
    try:
        return Links.read(text).size == size
    except BadDump:
        return False


def _leads_on(programs, row, rows):
    """True exactly if all that can follow the row is among the rows, and the list is whole if nothing can."""
    positions, dump = row
    links = Links.read(dump)
    steps = next_operations(programs, positions)
    for session, operation in steps:
        if not links.is_legal(operation):
            return False
        if (_after_step(positions, session), play(links, [operation]).dump()) not in rows:
            return False
    return len(steps) > 0 or links.is_whole()
