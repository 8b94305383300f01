"""Safe programs and safety tables: points 2, 3 and 40."""

import unittest
from itertools import product

from latelink.errors import BadProgram, BadSize, TooMany, Unsafe
from latelink.links import Links
from latelink.replay import replay
from latelink.schedules import bad_schedule, is_safe_table, safe_table
from tests.helpers import LinkCase
from tests.model import all_dumps, of_dump
from tests.sessions import bad_schedules, reached_rows, small_programs, some_programs

UNSAFE = [[-1, 1], [-2, -3, 3, 2]]
SAFE = [[-1, 1], [-3, -2, 2, 3]]
FUNCTIONS = (bad_schedule, safe_table)
# Two programs of which very many positions and standings can be reached.
WIDE = [[-4, -2, 4, -6, -4, -7, 7, 6, 4, 2], [-3, -1, -5, 1, 3, 5, -1, -3, -5, 5, 3, 1]]


def is_right(size, programs, table):
    """Point 40, for a list of pairs of positions within the programs and dumps of the size."""
    def is_right_row(positions, dump):
        for session, program in enumerate(programs):
            if positions[session] < len(program):
                model, operation = of_dump(dump), program[positions[session]]
                if operation not in model.legal():
                    return False
                model.apply(operation)
                later = list(positions)
                later[session] += 1
                if (tuple(later), model.dump()) not in table:
                    return False
        ended = all(done == len(program) for done, program in zip(positions, programs))
        return not ended or dump == str(Links(size))

    return ((0,) * len(programs), str(Links(size))) in table and all(is_right_row(*row) for row in table)


def moved(programs, shift):
    return [[operation + shift if operation > 0 else operation - shift for operation in program] for program in programs]


class BadScheduleTest(LinkCase):
    def test_examples(self):
        self.assert_told([0, 1, 0, 1, 1, 1], bad_schedule, 3, UNSAFE)
        self.assert_told(None, bad_schedule, 3, SAFE)

    def test_a_search(self):
        told = set()
        for size, programs in small_programs():
            bad = bad_schedules(size, programs)
            self.assert_told(bad[0] if bad else None, bad_schedule, size, programs)
            told.add(len(bad))
        self.assertGreater(len(told), 5)

    def test_no_session_and_empty_programs(self):
        for size in (0, 1, 60):
            for programs in ([], [[]], [[], [], []]):
                self.assert_told(None, bad_schedule, size, programs)
        self.assert_told([1, 3, 1, 3, 3, 3], bad_schedule, 3, [[], UNSAFE[0], [], UNSAFE[1]])

    def test_one_session_alone(self):
        self.assert_told(None, bad_schedule, 2, [[-1, -2, 2, 1]])
        self.assert_told([0] * 6, bad_schedule, 3, [[-1, -2, 1, -3, 2, 3]])

    def test_size_60(self):
        for shift in (0, 20, 53):
            schedule = self.at_once(bad_schedule, 60, moved(WIDE, shift))
            self.assertEqual(schedule, bad_schedule(7, WIDE))
            self.assertEqual((schedule.count(0), schedule.count(1)), (10, 12))
        for lengths in ((4, 4, 4), (2, 2, 2, 2), (8, 14), (148,), (4, 28)):
            for programs in some_programs(60, lengths, 2):
                self.at_once(bad_schedule, 60, programs)

    def test_lists_are_new(self):
        self.assert_new(bad_schedule, 3, UNSAFE)
        self.assert_new(safe_table, 3, SAFE)
        self.assert_new(safe_table, 0, [])


class SafeTableTest(LinkCase):
    def test_example(self):
        rows = [((0,), "1 2 | 0 1 | none"), ((1,), "2 2 | 0 0 | 1"), ((2,), "1 2 | 0 1 | none")]
        self.assert_told(rows, safe_table, 1, [[-1, 1]])

    def test_a_search(self):
        for size, programs in small_programs():
            bad = bad_schedules(size, programs)
            if bad:
                self.assert_error(Unsafe(bad[0]), safe_table, size, programs)
            else:
                rows = reached_rows(size, programs)
                self.assert_told(rows, safe_table, size, programs)
                self.assertEqual({(type(row), type(row[0])) for row in safe_table(size, programs)}, {(tuple, tuple)})

    def test_no_session_and_empty_programs(self):
        for size in (0, 1, 60):
            for programs in ([], [[]], [[], [], []]):
                self.assert_told([((0,) * len(programs), str(Links(size)))], safe_table, size, programs)

    def test_positions_ascend_as_tuples(self):
        programs = [[-1, 1] * 5, [-3, 3]]
        rows = safe_table(3, programs)
        self.assertEqual([positions for positions, _ in rows], list(product(range(11), range(3))))

    def test_the_schedule_of_the_error_is_new(self):
        for _ in range(2):
            with self.assertRaises(Unsafe) as caught:
                safe_table(3, UNSAFE)
            self.assertEqual(caught.exception.schedule, [0, 1, 0, 1, 1, 1])
            caught.exception.schedule.append(7)

    def test_size_60(self):
        apart = [[-node, node] for node in (1, 20, 40, 60)]
        for programs in ([[-30, 30] * 6, [-32, 32] * 5], [[-1, 1] * 74], moved(SAFE, 57), apart):
            rows = self.at_once(safe_table, 60, programs)
            self.assertIs(self.at_once(is_safe_table, 60, programs, rows), True)


class IsSafeTableTest(LinkCase):
    def setUp(self):
        self.rows = safe_table(3, SAFE)

    def assert_table(self, right, rows, size=3, programs=SAFE):
        self.assert_told(right, is_safe_table, size, programs, rows)

    def test_the_tables_of_small_programs(self):
        for size, programs in small_programs():
            rows = reached_rows(size, programs)
            self.assert_table(not bad_schedules(size, programs), rows, size, programs)

    def test_a_row_too_few(self):
        for index in range(len(self.rows)):
            self.assert_table(False, self.rows[:index] + self.rows[index + 1:])
        self.assert_table(False, [])
        self.assert_table(False, [], 0, [])
        self.assert_table(False, [], 3, [[]])

    def test_rows_twice_and_in_another_order(self):
        self.assert_table(True, self.rows)
        self.assert_table(True, self.rows[::-1])
        self.assert_table(True, self.rows + self.rows)
        self.assert_table(True, self.rows[5:] + self.rows[3:4] + self.rows[:5])

    def test_rows_that_no_schedule_reaches(self):
        told = set()
        for size, programs in ((2, [[-1, 1], [-2, 2]]), (2, [[-2, -1, 1, 2]]), (2, [[]]), (1, []), (1, [[], [-1, 1]])):
            rows = safe_table(size, programs)
            for dump in all_dumps(size):
                for positions in product(*[range(len(program) + 1) for program in programs]):
                    table = rows + [(positions, dump)]
                    right = is_right(size, programs, table)
                    self.assert_table(right, table, size, programs)
                    told.add((right, (positions, dump) in rows))
        self.assertEqual(told, {(True, True), (False, False), (True, False)})

    def test_an_illegal_operation_on_a_row_that_no_schedule_reaches(self):
        rows = [((0,), "1 2 | 0 1 | none"), ((1,), "2 2 | 0 0 | 1"), ((2,), "1 2 | 0 1 | none")]
        self.assert_table(True, rows, 1, [[-1, 1]])
        self.assert_table(False, rows + [((0,), "1 2 | 0 1 | 1")], 1, [[-1, 1]])
        self.assert_table(False, rows + [((1,), "2 2 | 0 0 | none")], 1, [[-1, 1]])

    def test_a_row_at_the_end_that_is_not_whole(self):
        self.assert_table(True, self.rows + [((2, 4), str(Links(3)))])
        for dump in ("1 3 3 4 | 0 1 2 3 | none", "1 2 3 4 | 0 1 2 3 | 2", str(replay(3, [-1]))):
            self.assert_table(False, self.rows + [((2, 4), dump)])
        self.assert_table(False, [((), "1 2 | 0 1 | none"), ((), "1 2 | 0 0 | none")], 1, [])

    def test_without_the_first_row(self):
        rows = safe_table(1, [[-1, 1]])
        self.assert_table(False, rows[1:], 1, [[-1, 1]])
        self.assert_table(False, [((0,), "2 2 | 0 1 | none")] + rows[1:], 1, [[-1, 1]])

    def test_members_of_other_kinds(self):
        whole = str(Links(3))
        for odd in (None, 0, 7, "", "row", b"row", True, 1.5, [], {}, set(), object(), Links(3), (), [(0, 0), whole],
                    ((0, 0),), ((0, 0), whole, 0), ([0, 0], whole), ("00", whole), (None, whole), (0, whole),
                    ({0: 0, 1: 0}, whole), ((0, 0), None), ((0, 0), 3), ((0, 0), [whole]), ((0, 0), Links(3)),
                    ((0, 0), whole.encode()), ((0,), whole), ((0, 0, 0), whole), ((), whole), ((0, "0"), whole),
                    ((0, None), whole), ((0.0, 0), whole), ((0, (0,)), whole), ((0, []), whole), (whole, (0, 0)),
                    (({}, []), {}), ((0, {}), whole), ([], []), (self.rows, whole)):
            for rows in (self.rows + [odd], [odd] + self.rows, [odd]):
                self.assertIs(is_safe_table(3, SAFE, rows), False, odd)

    def test_true_and_false(self):
        whole = str(Links(3))
        for positions in ((False, False), (0, False), (False, 0), (True, 0), (2, True)):
            for row in self.rows:
                if row[0] == positions:
                    self.assert_table(False, self.rows + [(positions, row[1])])
            self.assert_table(False, [(positions, whole)] + self.rows[1:])
        self.assert_table(False, [((False,), str(Links(1)))] + safe_table(1, [[-1, 1]])[1:], 1, [[-1, 1]])

    def test_positions_beyond_the_programs(self):
        whole = str(Links(3))
        for positions in ((-1, 0), (0, -1), (3, 0), (0, 5), (3, 5), (10 ** 30, 0), (0, -10 ** 30)):
            self.assert_table(False, self.rows + [(positions, whole)])
        self.assert_table(False, safe_table(3, [[]]) + [((1,), whole)], 3, [[]])

    def test_no_dump_and_the_dump_of_another_size(self):
        for text in ("", "none", "1 2 3 4 | 0 1 2 3", "1 2 3 4 | 0 1 2 3 | none ", "1 2 3 4 | 0 1 2 3 | none | none",
                     "1 2 3 4 | 0 1 2 3 | 2 1", "1 2 3 4 | 0 1 2 3 | 4", "1 2 3 04 | 0 1 2 3 | none",
                     "1 2 3 4|0 1 2 3|none", "0 2 3 4 | 0 1 2 3 | none", str(Links(2)), str(Links(4)), str(Links(60)),
                     str(Links(0)), " ".join(str(node) for node in range(1, 70))):
            for positions in ((0, 0), (2, 4), (1, 1)):
                self.assertIs(is_safe_table(3, SAFE, self.rows + [(positions, text)]), False, text)
        self.assert_table(False, safe_table(2, [[]]), 3, [[]])

    def test_the_table_of_other_programs(self):
        self.assert_table(False, self.rows, 3, [[-1, 1], [-3, 3]])
        self.assert_table(False, self.rows, 3, SAFE[::-1])
        self.assert_table(False, self.rows, 3, SAFE + [[]])
        self.assert_table(False, reached_rows(3, UNSAFE), 3, UNSAFE)


class OrderOfErrorsTest(LinkCase):
    def assert_all(self, error, size, programs):
        for function in FUNCTIONS:
            self.assert_error(error, function, size, programs)
        for table in ([], [None], [((0,), "")]):
            self.assert_error(error, is_safe_table, size, programs, table)

    def test_sizes(self):
        self.assert_all(BadSize(-1), -1, [])
        self.assert_all(BadSize(61), 61, [[0], [-1, 1] * 100])

    def test_programs_come_before_their_number(self):
        self.assert_all(BadProgram(1, 0), 60, [[-1, 1] * 100, [0]])
        self.assert_all(BadProgram(0, 201), 60, [[-1, 1] * 100 + [-1]])

    def test_too_many(self):
        # A right program has an even length, so the product is odd: 149 is the greatest that does not exceed 150.
        for programs in ([[-1, 1] * 75], [[-1, 1], [-2, 2] * 25], [[-1, 1] * 4, [-2, 2] * 8], UNSAFE + [[-4, 4] * 5],
                         [[-k, k] for k in range(1, 61)], [[-1, 1] * 1000, []]):
            self.assert_all(TooMany(150), 60, programs)
        for lengths in ((148,), (2, 48), (10, 12), (6, 20), (2, 2, 14), (2, 2, 2, 2), (0, 148, 0)):
            for programs in some_programs(60, lengths, 1):
                self.at_once(bad_schedule, 60, programs)
                self.assertIs(self.at_once(is_safe_table, 60, programs, []), False)
        self.assertEqual(len(self.at_once(safe_table, 60, [[-60, 60] * 74])), 149)


if __name__ == "__main__":
    unittest.main()
