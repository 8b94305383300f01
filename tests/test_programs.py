"""Programs of sessions: points 2, 3, 39, 41 and 43."""

import unittest
from itertools import product
from math import comb, factorial

from latelink.errors import BadProgram, BadSchedule, BadSize
from latelink.ops import blocks
from latelink.programs import count_schedules, groups, is_stack, weave
from latelink.schedules import bad_schedule, is_safe_table, safe_table
from latelink.waiting import refused_schedule, run, stuck_schedule
from tests.helpers import LinkCase
from tests.sessions import (
    bad_schedules, complete_schedules, programs_on, small_programs, some_programs, weaving, wrong_at,
)

PROGRAMS = [[-1, 1], [-2, -3, 3, 2]]
TAKING_PROGRAMS = (count_schedules, groups, bad_schedule, safe_table, stuck_schedule, refused_schedule, run)


def woven(size, programs, schedule):
    return weave(size, *programs, schedule=schedule)


def is_stack_by_definition(program):
    """Point 43, for a program that is right by itself."""
    for index, operation in enumerate(program):
        if operation > 0:
            before = program[:index]
            out = [x for x in map(abs, before) if before.count(-x) > before.count(x)]
            last = max(out, key=lambda x: max(at for at, other in enumerate(before) if other == -x))
            if last != operation:
                return False
    return True


def groups_by_definition(size, programs):
    """Point 41: the classes of the sessions that chains of sessions join, each two next ones by a block."""
    every = [operation for program in programs for operation in program]
    acting = [{block for block in blocks(size, every) for operation in program if block[0] <= abs(operation) <= block[1]}
              for program in programs]
    found = []
    for session in range(len(programs)):
        if not any(session in group for group in found):
            group = {session}
            while True:
                more = {other for other in range(len(programs)) for mate in group if acting[other] & acting[mate]}
                if more <= group:
                    break
                group |= more
            found.append(sorted(group))
    return found


class ProgramsTest(LinkCase):
    """Point 39: which programs are right."""

    def assert_wrong(self, session, index, size, programs):
        error = BadProgram(session, index)
        self.assertEqual(wrong_at(size, programs), (session, index))
        for function in TAKING_PROGRAMS:
            self.assert_error(error, function, size, programs)
        self.assert_error(error, is_safe_table, size, programs, [])
        self.assert_error(error, weave, size, *programs, schedule=[])
        self.assert_error(error, weave, size, *programs, schedule=[-1])

    def test_no_operation(self):
        for operation in (0, 4, -4, 61, -10 ** 20):
            self.assert_wrong(0, 0, 3, [[operation]])
            self.assert_wrong(0, 2, 3, [[-1, 1, operation, 2]])
            self.assert_wrong(1, 1, 3, [[-1, 1], [-2, operation, 2]])
        self.assert_wrong(0, 0, 0, [[-1, 1]])
        self.assert_wrong(1, 0, 0, [[], [0]])

    def test_illegal_by_itself(self):
        self.assert_wrong(0, 0, 3, [[1]])
        self.assert_wrong(0, 1, 3, [[-1, -1, 1]])
        self.assert_wrong(1, 2, 3, [[-1, 1], [-2, 2, 2]])

    def test_a_node_of_an_earlier_program(self):
        self.assert_wrong(1, 0, 3, [[-1, 1], [-1, 1]])
        self.assert_wrong(1, 2, 3, [[-2, -1, 1, 2], [-3, 3, -1, 1]])
        self.assert_wrong(2, 1, 3, [[-1, 1], [-2, 2], [-3, 2, 3]])
        self.assert_wrong(2, 0, 3, [[-1, 1], [], [-1, 1]])

    def test_a_node_that_is_out_at_the_end(self):
        self.assert_wrong(0, 1, 3, [[-1]])
        self.assert_wrong(0, 3, 3, [[-1, -2, 1]])
        self.assert_wrong(1, 3, 3, [[-1, 1], [-2, 2, -2], [-3, 3]])
        self.assert_wrong(0, 60, 60, [[-node for node in range(1, 61)]])

    def test_the_least_wrong_session(self):
        self.assert_wrong(0, 1, 3, [[-1], [0]])
        self.assert_wrong(0, 2, 3, [[-1, 1, 0], [0], [4]])
        self.assert_wrong(1, 1, 3, [[-1, 1], [-2], [-2, 2]])
        # An operation that is wrong comes before a node that is out at the end.
        self.assert_wrong(0, 2, 3, [[-1, -2, 0, 2]])
        self.assert_wrong(1, 1, 3, [[-1, 1], [-2, -1]])

    def test_all_short_programs(self):
        operations = range(-3, 4)
        for lengths in ((2,), (3,), (2, 2), (0, 2), (2, 1), (1, 2)):
            for words in product(operations, repeat=sum(lengths)):
                rest, programs = list(words), []
                for length in lengths:
                    programs.append(rest[:length])
                    rest = rest[length:]
                wrong = wrong_at(2, programs)
                if wrong is None:
                    self.told(groups, 2, programs)
                else:
                    self.assert_error(BadProgram(*wrong), groups, 2, programs)

    def test_right_programs(self):
        for size, programs in small_programs():
            self.told(groups, size, programs)
        self.assert_told([[0]], groups, 60, [[-60, 60, -60, -1, 60, 1]])

    def test_the_size_comes_first(self):
        for size in (-1, 61):
            for programs in ([[0]], [[]], []):
                for function in TAKING_PROGRAMS:
                    self.assert_error(BadSize(size), function, size, programs)
                self.assert_error(BadSize(size), is_safe_table, size, programs, [])
                self.assert_error(BadSize(size), weave, size, *programs, schedule=[7])


class StackTest(LinkCase):
    """Point 43."""

    def test_ordinary(self):
        for program, right in (([], True), ([-1, 1], True), ([-1, -2, 2, 1], True), ([-1, -2, 1, 2], False),
                               ([-2, 2, -1, 1, -2, 2], True), ([-1, -2, 2, -3, 1, 3], False),
                               ([-1, -2, 2, -3, 3, 1], True), ([-60, -1, 1, 60], True), ([-60, -1, 60, 1], False),
                               ([-1, 1, -1, -2, 1, -1, 2, 1], False)):
            self.assert_told(right, is_stack, program)

    def test_the_node_that_was_unlinked_last_again(self):
        # Node 1 was unlinked first, but it was unlinked once more behind node 2.
        self.assert_told(True, is_stack, [-1, 1, -2, -1, 1, 2])
        self.assert_told(False, is_stack, [-1, 1, -2, -1, 2, 1])

    def test_all_programs_of_three_nodes(self):
        told = set()
        for program in programs_on([1, 2, 3], 6):
            self.assert_told(is_stack_by_definition(program), is_stack, program)
            told.add(is_stack(program))
        self.assertEqual(told, {True, False})

    def test_long_programs(self):
        nodes = list(range(1, 61))
        down = [-node for node in nodes]
        self.assert_told(True, is_stack, down + nodes[::-1])
        self.assert_told(False, is_stack, down + nodes[:-2:-1] + nodes[:-1])
        self.assert_told(True, is_stack, [-1, 1] * 5000)


class CountSchedulesTest(LinkCase):
    def test_a_search(self):
        for size, programs in small_programs():
            self.assert_told(len(list(complete_schedules(programs))), count_schedules, size, programs)

    def test_no_session_and_empty_programs(self):
        for size in (0, 1, 60):
            for programs in ([], [[]], [[], [], []]):
                self.assert_told(1, count_schedules, size, programs)
        self.assert_told(1, count_schedules, 1, [[], [-1, 1], []])

    def test_very_many(self):
        pairs = [[-node, node] for node in range(1, 61)]
        self.assertEqual(self.at_once(count_schedules, 60, pairs), factorial(120) // 2 ** 60)
        long = [[-1, 1] * 500, [-60, 60] * 700]
        self.assertEqual(self.at_once(count_schedules, 60, long), comb(2400, 1000))
        self.assertEqual(self.at_once(count_schedules, 60, [[-node for node in range(1, 61)] + list(range(1, 61))]), 1)


class WeaveTest(LinkCase):
    def test_example(self):
        self.assert_told([-5, -1, 1], weave, 6, [-1, 1], [-5, 5], schedule=[1, 0, 0])

    def test_every_schedule_and_its_beginnings(self):
        for size, programs in small_programs():
            for schedule in list(complete_schedules(programs))[:20]:
                for length in range(len(schedule) + 1):
                    self.assertEqual(woven(size, programs, schedule[:length]), weaving(programs, schedule[:length]))

    def test_no_session_and_no_entry(self):
        for size in (0, 1, 60):
            self.assert_told([], weave, size, schedule=[])
            self.assert_told([], weave, size, [], [], schedule=[])
        self.assert_told([], weave, 3, *PROGRAMS, schedule=[])

    def test_no_session_number(self):
        for session in (-1, 2, 3, -2, 10 ** 20):
            self.assert_error(BadSchedule(0), weave, 3, *PROGRAMS, schedule=[session])
            self.assert_error(BadSchedule(2), weave, 3, *PROGRAMS, schedule=[0, 1, session, 0])
            self.assert_error(BadSchedule(6), weave, 3, *PROGRAMS, schedule=[0, 1, 0, 1, 1, 1, session])
        self.assert_error(BadSchedule(0), weave, 3, schedule=[0])

    def test_a_session_that_has_ended(self):
        self.assert_error(BadSchedule(2), weave, 3, *PROGRAMS, schedule=[0, 0, 0])
        self.assert_error(BadSchedule(3), weave, 3, *PROGRAMS, schedule=[0, 1, 0, 0, 1, 1, -1])
        self.assert_error(BadSchedule(4), weave, 3, *PROGRAMS, schedule=[1, 1, 1, 1, 1])
        self.assert_error(BadSchedule(0), weave, 3, [], [-1, 1], schedule=[0, 7])
        self.assert_error(BadSchedule(1), weave, 3, [], [-1, 1], schedule=[1, 0])

    def test_the_first_wrong_entry(self):
        self.assert_error(BadSchedule(1), weave, 3, *PROGRAMS, schedule=[0, 2, 0, 0, -1])

    def test_arguments_do_not_change(self):
        programs, schedule = [[-1, 1], [-2, 2]], [0, 1, 1]
        log = weave(3, *programs, schedule=schedule)
        self.assertEqual((programs, schedule), ([[-1, 1], [-2, 2]], [0, 1, 1]))
        log.append(9)
        self.assertEqual(weave(3, *programs, schedule=schedule), [-1, -2, 2])


class GroupsTest(LinkCase):
    """Point 41."""

    def test_example(self):
        self.assert_told([[0, 2], [1]], groups, 6, [[-1, 1], [-5, 5], [-2, 2]])

    def test_no_session_and_empty_programs(self):
        for size in (0, 1, 60):
            self.assert_told([], groups, size, [])
            self.assert_told([[0], [1]], groups, size, [[], []])
        self.assert_told([[0], [1, 3], [2]], groups, 3, [[], [-1, 1], [], [-2, 2]])

    def test_through_further_sessions(self):
        # The sessions 0 and 1 meet at the nodes 1 and 2, the sessions 1 and 3 at 11 and 12, and 3 and 4 at 21 and 22.
        programs = [[-1, 1], [-2, 2, -11, 11], [-50, 50], [-12, -21, 21, 12], [-22, 22], [-30, 30]]
        self.assert_told([[0, 1, 3, 4], [2], [5]], groups, 60, programs)
        # Both blocks are those of the sessions 0 and 2; only the program of session 2 joins the two.
        self.assert_told([[0, 1, 2], [3]], groups, 9, [[-1, 1], [-7, 7], [-2, 2, -6, 6], [-9, 9]])
        # A later block joins what two earlier ones have joined.
        programs = [[-1, 1], [-2, 2], [-11, 11], [-12, 12, -21, 21], [-22, 22, -31, 31], [-32, -3, 3, 32]]
        self.assert_told([[0, 1, 2, 3, 4, 5]], groups, 60, programs)

    def test_a_node_between_separates(self):
        self.assert_told([[0], [1]], groups, 3, [[-1, 1], [-3, 3]])
        self.assert_told([[0, 1, 2]], groups, 3, [[-1, 1], [-3, 3], [-2, 2]])

    def test_a_search(self):
        families = list(small_programs())
        for lengths in ((2, 2, 2), (4, 2, 0, 2), (2, 2, 2, 2, 2), (4, 4)):
            families += [(20, programs) for programs in some_programs(20, lengths, 40)]
        for size, programs in families:
            self.assert_told(groups_by_definition(size, programs), groups, size, programs)

    def test_safe_exactly_if_each_group_is(self):
        families = list(small_programs())
        families += [(7, programs) for programs in some_programs(7, (2, 4, 2), 60)]
        families += [(6, [[-1, 1], [-6, 6], [-2, -3, 3, 2]]), (5, [[-3, -4, 4, 3], [-1, 1], [-5, 5]])]
        told = set()
        for size, programs in families:
            parts = [[programs[session] for session in group] for group in groups(size, programs)]
            safe = all(not bad_schedules(size, part) for part in parts)
            self.assertIs(bad_schedule(size, programs) is None, safe, programs)
            told.add((len(parts) > 1, safe))
        self.assertEqual(told, {(True, True), (True, False), (False, True), (False, False)})

    def test_lists_are_new(self):
        self.assert_new(groups, 6, [[-1, 1], [-5, 5], [-2, 2]])
        self.assert_new(groups, 6, [])
        found = groups(3, [[-1, 1]])
        found[0].append(5)
        self.assertEqual(groups(3, [[-1, 1]]), [[0]])

    def test_size_60(self):
        self.assertEqual(self.at_once(groups, 60, [[-node, node] for node in range(1, 61)]), [list(range(60))])
        self.assertEqual(self.at_once(groups, 60, [[-node, node] for node in range(1, 61, 2)]), [[k] for k in range(30)])


if __name__ == "__main__":
    unittest.main()
