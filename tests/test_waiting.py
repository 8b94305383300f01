"""Sessions that wait, and runs: points 2, 3 and 42 to 45."""

import unittest

from latelink.errors import BadMode, BadProgram, BadSize, BadTurn, Stuck, TooMany
from latelink.programs import is_stack
from latelink.schedules import bad_schedule
from latelink.waiting import refused_schedule, run, stuck_schedule
from tests.helpers import LinkCase
from tests.model import MODES
from tests.sessions import (
    next_steps, programs_on, run_by_definition, small_programs, some_programs, waiting_schedules, weaving,
)

PROGRAMS = [[-1, 1], [-2, -3, 3, 2]]
# Stack programs that get stuck in the saving mode.
SAVING = [[-2, -4, -1, 1, 4, 2], [-3, 3]]
QUESTIONS = (stuck_schedule, refused_schedule)
TURNS = ("first", "round")


class WaitingTest(LinkCase):
    """Point 42."""

    def test_examples(self):
        self.assert_told([0, 1, 0], stuck_schedule, 3, PROGRAMS, mode="guarded")
        self.assert_told(None, stuck_schedule, 3, PROGRAMS)

    def test_ordinary(self):
        self.assert_told([0, 1, 0], refused_schedule, 3, PROGRAMS)
        self.assert_told([0, 1, 0, 1], refused_schedule, 3, PROGRAMS, mode="guarded")
        self.assert_told(None, refused_schedule, 3, PROGRAMS, mode="saving")
        self.assert_told([1, 0, 1, 0], stuck_schedule, 4, SAVING, mode="saving")
        self.assert_told([1, 0, 1, 0, 0], refused_schedule, 4, SAVING, mode="saving")

    def test_a_search(self):
        told = set()
        for size, programs in small_programs():
            for mode in MODES:
                stuck, refused = waiting_schedules(size, programs, mode)
                self.assert_told(stuck[0] if stuck else None, stuck_schedule, size, programs, mode=mode)
                self.assert_told(refused[0] if refused else None, refused_schedule, size, programs, mode=mode)
                told.add((mode, len(stuck) > 0, len(refused) > 0))
        wanted = {(mode, False, False) for mode in MODES} | {(mode, False, True) for mode in MODES[1:]}
        self.assertEqual(told, wanted | {(mode, True, True) for mode in MODES[2:]})

    def test_the_checked_mode_is_meant_if_none_is_named(self):
        for size, programs in small_programs():
            for function in QUESTIONS:
                self.assertEqual(function(size, programs), function(size, programs, mode="checked"))

    def test_nothing_waits_in_the_free_mode(self):
        for size, programs in [*small_programs(), (4, SAVING)]:
            for function in QUESTIONS:
                self.assert_told(None, function, size, programs, mode="free")

    def test_no_session_and_empty_programs(self):
        for size in (0, 1, 60):
            for programs in ([], [[]], [[], [], []]):
                for mode in MODES:
                    for function in QUESTIONS:
                        self.assert_told(None, function, size, programs, mode=mode)
                    for turn in TURNS:
                        self.assert_told([], run, size, programs, mode=mode, turn=turn)

    def test_size_60(self):
        wide = [[-54, -52, 54, -56, -54, -57, 57, 56, 54, 52], [-53, -51, -55, 51, 53, 55, -51, -53, -55, 55, 53, 51]]
        apart = [[-node, node] for node in (1, 20, 40, 60)]
        for programs in (wide, apart, *some_programs(60, (6, 20), 2), *some_programs(60, (4, 4, 4), 2)):
            for mode in MODES:
                for function in QUESTIONS:
                    self.at_once(function, 60, programs, mode=mode)

    def test_lists_are_new(self):
        self.assert_new(stuck_schedule, 3, PROGRAMS, mode="guarded")
        self.assert_new(refused_schedule, 3, PROGRAMS)
        self.assert_new(run, 3, PROGRAMS)
        self.assert_new(run, 3, [])


class StackProgramsTest(LinkCase):
    """Point 43."""

    def stack_programs(self):
        for size, programs in small_programs():
            if all(is_stack(program) for program in programs):
                yield size, programs
        for size, lengths in ((4, (4, 4)), (5, (2, 2, 2)), (6, (4, 4, 2)), (7, (8, 6)), (12, (2, 2, 2, 2))):
            for programs in some_programs(size, lengths, 60):
                if all(is_stack(program) for program in programs):
                    yield size, programs

    def test_never_stuck_in_the_checked_mode(self):
        many = 0
        for size, programs in self.stack_programs():
            self.assert_told(None, stuck_schedule, size, programs)
            many += refused_schedule(size, programs) is not None
        self.assertGreater(many, 50)

    def test_a_run_in_the_checked_mode_ends(self):
        for size, programs in self.stack_programs():
            for turn in TURNS:
                self.assertEqual(len(run(size, programs, turn=turn)), sum(map(len, programs)))

    def test_stuck_in_the_guarded_mode_on_three_nodes(self):
        self.assertTrue(all(is_stack(program) for program in PROGRAMS))
        self.assert_told([0, 1, 0], stuck_schedule, 3, PROGRAMS, mode="guarded")

    def test_stuck_in_the_saving_mode_on_four_nodes(self):
        self.assertTrue(all(is_stack(program) for program in SAVING))
        self.assert_told([1, 0, 1, 0], stuck_schedule, 4, SAVING, mode="saving")

    def test_other_programs_can_be_stuck_in_the_checked_mode(self):
        # A session that relinks in another order than that of a stack waits for itself.
        self.assert_told([0, 0], stuck_schedule, 2, [[-1, -2, 1, 2]])
        self.assert_error(Stuck([0, 0]), run, 2, [[-1, -2, 1, 2]])


class OnceTest(LinkCase):
    """Point 44."""

    def test_safe_exactly_if_the_guarded_mode_refuses_nothing(self):
        families = list(small_programs())
        families += [(3, [program]) for program in programs_on([1, 2, 3], 6)]
        for size, lengths in ((4, (4, 4)), (4, (2, 6)), (5, (4, 6)), (6, (4, 4, 4)), (8, (2, 2, 2, 2)), (9, (6, 8))):
            families += [(size, programs) for programs in some_programs(size, lengths, 60)]
        told = set()
        for size, programs in families:
            if all(len(set(program)) == len(program) for program in programs):
                safe = bad_schedule(size, programs) is None
                self.assertIs(refused_schedule(size, programs, mode="guarded") is None, safe, programs)
                told.add(safe)
        self.assertEqual(told, {True, False})


class RunTest(LinkCase):
    """Point 45."""

    def test_example(self):
        self.assert_told([0, 1, 1, 1, 1, 0], run, 3, PROGRAMS, turn="round")

    def test_both_turns_in_each_mode(self):
        told = set()
        alone = [(3, [[], [-1, -2, 1, -3, 2, 3]]), (4, [[-2, -3, 2, -1, -4, 1, 3, 4]])]
        for size, programs in [*small_programs(), *alone]:
            for mode in MODES:
                for turn in TURNS:
                    schedule, ended = run_by_definition(size, programs, mode, turn)
                    if ended:
                        self.assert_told(schedule, run, size, programs, mode=mode, turn=turn)
                        self.assertEqual(next_steps(programs, schedule), [])
                    else:
                        self.assert_error(Stuck(schedule), run, size, programs, mode=mode, turn=turn)
                    told.add((mode, turn, ended))
        wanted = {(mode, turn, True) for mode in MODES for turn in TURNS}
        self.assertEqual(told, wanted | {(mode, turn, False) for mode in MODES[1:] for turn in TURNS})

    def test_the_turns(self):
        apart = [[-1, 1], [-3, 3, -3, 3], [], [-5, 5]]
        for mode in MODES:
            self.assert_told([0, 0, 1, 1, 1, 1, 3, 3], run, 5, apart, mode=mode)
            self.assert_told([0, 1, 3, 0, 1, 3, 1, 1], run, 5, apart, mode=mode, turn="round")

    def test_the_first_session_is_taken_if_no_turn_is_named(self):
        for programs in some_programs(6, (2, 2, 2), 20):
            self.assertEqual(run(6, programs, mode="free"), [0, 0, 1, 1, 2, 2])

    def test_stuck(self):
        self.assert_error(Stuck([0, 1, 0]), run, 3, PROGRAMS, mode="guarded", turn="round")
        self.assert_told([0, 0, 1, 1, 1, 1], run, 3, PROGRAMS, mode="guarded")
        self.assert_told([0, 1, 0, 1, 1, 1], run, 3, PROGRAMS, mode="saving", turn="round")
        # With the turn "first" the mode stops one session alone.
        self.assert_error(Stuck([0, 0, 0]), run, 3, [[-1, -2, 1, -3, 2, 3]], mode="guarded")
        self.assert_error(Stuck([0] * 4), run, 4, [[-2, -3, 2, -1, -4, 1, 3, 4]], mode="saving", turn="round")

    def test_the_schedule_of_the_error_is_new(self):
        for _ in range(2):
            with self.assertRaises(Stuck) as caught:
                run(3, PROGRAMS, mode="guarded", turn="round")
            self.assertEqual(caught.exception.schedule, [0, 1, 0])
            caught.exception.schedule.append(7)

    def test_many_sessions_and_long_programs(self):
        pairs = [[-node, node] for node in range(1, 61)]
        for mode in MODES:
            self.assertEqual(self.at_once(run, 60, pairs, mode=mode), [k for k in range(60) for _ in range(2)])
        self.assertEqual(self.at_once(run, 60, pairs, mode="free", turn="round"), list(range(60)) * 2)
        schedule = self.at_once(run, 60, pairs, turn="round")
        self.assertEqual(sorted(schedule), [k for k in range(60) for _ in range(2)])
        self.assertEqual(schedule, run_by_definition(60, pairs, "checked", "round")[0])
        long = [[-node, node] * 100 for node in range(1, 61, 4)]
        self.assertEqual(len(self.at_once(run, 60, long, turn="round")), 3000)
        self.assertEqual(weaving(long, self.at_once(run, 60, long)), [step for program in long for step in program])


class OrderOfErrorsTest(LinkCase):
    def test_sizes_modes_programs_and_their_number(self):
        for function in QUESTIONS:
            self.assert_error(BadSize(61), function, 61, [[0]], mode="odd")
            self.assert_error(BadSize(-1), function, -1, [])
            self.assert_error(BadMode("odd"), function, 3, [[0]], mode="odd")
            self.assert_error(BadMode(""), function, 3, [[-1, 1] * 100], mode="")
            self.assert_error(BadMode("Free"), function, 3, [], mode="Free")
            self.assert_error(BadProgram(1, 0), function, 3, [[-1, 1] * 100, [1]], mode="free")
            for mode in MODES:
                self.assert_error(TooMany(150), function, 3, [[-1, 1] * 75], mode=mode)
                self.assert_error(TooMany(150), function, 3, [[-1, 1] * 4, [-2, 2] * 8], mode=mode)
                self.assert_told(None, function, 3, [[-1, 1] * 74], mode=mode)

    def test_runs(self):
        self.assert_error(BadSize(61), run, 61, [[0]], mode="odd", turn="odd")
        self.assert_error(BadMode("odd"), run, 3, [[0]], mode="odd", turn="odd")
        for turn in ("odd", "", "First", "last", "first "):
            self.assert_error(BadTurn(turn), run, 3, [[0]], turn=turn)
            self.assert_error(BadTurn(turn), run, 3, [], turn=turn)
        self.assert_error(BadProgram(0, 0), run, 3, [[0]], turn="round")
        self.assert_error(BadProgram(1, 1), run, 3, [[-1, 1], [-2]])
        # A program that is wrong is told although the run would be stuck before.
        self.assert_error(BadProgram(2, 0), run, 3, PROGRAMS + [[2]], mode="guarded", turn="round")

    def test_a_run_may_be_long(self):
        self.assertEqual(self.at_once(run, 3, [[-1, 1] * 75]), [0] * 150)


if __name__ == "__main__":
    unittest.main()
