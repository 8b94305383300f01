"""The desk: points 2, 3 and 49 to 54."""

import random
import unittest

from latelink.desk import Desk, probe
from latelink.errors import (
    BadCapacity, BadIndex, BadMode, BadOperation, BadSize, BadText, Full, Illegal, LinkError, NothingToRedo,
    NothingToUndo, NotRepairable, Refused, Stale,
)
from latelink.gaps import gap_states
from latelink.links import Links
from latelink.ops import format_log
from latelink.repairs import first_repair
from latelink.replay import replay
from tests.helpers import LinkCase
from tests.model import MODES, Model, after, signed

LOSS = [-2, -3, 2, -1, -4]


class PlainDesk:
    """A second desk, from the document alone: it keeps its steps and plays all of them whenever it is asked."""

    def __init__(self, size, mode, capacity):
        self.size, self.mode, self.capacity = size, mode, capacity
        self.steps, self.undone = [], []

    def log(self):
        return [operation for step in self.steps for operation in step]

    def add(self, operations):
        if operations:
            self.steps.append(list(operations))
            self.undone = []

    def error_of(self, operations):
        """Points 49 and 51: the error of an attempt, or None."""
        model = after(self.size, self.log())
        for index, operation in enumerate(operations):
            if not 1 <= abs(operation) <= self.size:
                return BadOperation(operation, index)
            if operation not in model.legal():
                return Illegal(operation, index)
            refusing = model.refused_by(operation)
            if self.mode in refusing:
                return Refused(operation, index, refusing[0])
            if len(self.log()) + index + 1 > self.capacity:
                return Full(self.capacity)
            model.apply(operation)
        return None


class DeskCase(LinkCase):
    def look(self, desk):
        """All that a desk shows; undo and redo are tried on a twin."""
        twin, steps = desk.twin(), []
        while True:
            try:
                twin.redo()
            except NothingToRedo:
                break
        while True:
            steps.append((twin.log(), twin.links().dump()))
            try:
                twin.undo()
            except NothingToUndo:
                break
        return desk.size, desk.capacity, desk.mode, desk.length, desk.debt, desk.log(), desk.links().dump(), steps

    def assert_desk(self, desk, log, **named):
        """The desk has this log and the standing after it, and these further values."""
        links = replay(desk.size, log)
        self.assertEqual((desk.log(), desk.length), (log, len(log)))
        self.assertEqual(desk.links(), links)
        for name, value in named.items():
            self.assertEqual(getattr(desk, name), value, name)

    def assert_refuses(self, error, desk, function, *values, **named):
        """The call raises this error, and the desk is as before."""
        before = self.look(desk)
        self.assert_error(error, function, *values, **named)
        self.assertEqual(self.look(desk), before)


class NewDeskTest(DeskCase):
    """Point 49."""

    def test_at_first(self):
        for size in (0, 1, 60):
            desk = Desk(size)
            self.assert_desk(desk, [], size=size, mode="free", capacity=200, debt=0)
            self.assertEqual(Desk.MOST, 2000)
        desk = Desk(3, mode="saving", capacity=7)
        self.assert_desk(desk, [], size=3, mode="saving", capacity=7, debt=0)

    def test_capacities(self):
        for capacity in (1, 2, 200, 1999, 2000):
            self.assertEqual(Desk(3, capacity=capacity).capacity, capacity)
        for capacity in (0, -1, 2001, 10 ** 20):
            self.assert_error(BadCapacity(capacity), Desk, 3, capacity=capacity)

    def test_the_order_of_errors(self):
        self.assert_error(BadSize(61), Desk, 61, mode="odd", capacity=0)
        self.assert_error(BadSize(-1), Desk, -1)
        self.assert_error(BadMode("odd"), Desk, 3, mode="odd", capacity=0)
        self.assert_error(BadMode(""), Desk, 3, mode="")
        self.assert_error(BadCapacity(0), Desk, 3, mode="checked", capacity=0)

    def test_what_it_returns_is_its_own(self):
        desk = Desk(3)
        self.assertIsNone(desk.do(-1))
        self.assertEqual(desk.attempt(-2, 1), 2)
        log, links = desk.log(), desk.links()
        log.append(7)
        links.apply(-3)
        self.assert_desk(desk, [-1, -2, 1])
        self.assert_new(desk.log)
        desk.repair().append(9)
        self.assert_desk(desk, [-1, -2, 1, 2])
        desk.undo()
        desk.redo()
        self.assert_desk(desk, [-1, -2, 1, 2])

    def test_debts(self):
        desk = Desk(4)
        for operation, debt in zip(LOSS, [1, 2, 1, 2, None]):
            desk.do(operation)
            self.assertEqual(desk.debt, debt)
        desk = Desk(3)
        desk.attempt(-1, -2, 1, -3, 2, 3)
        self.assertEqual(desk.debt, 2)

    def test_length_and_debt_are_not_assigned(self):
        desk = Desk(3)
        for name in ("length", "debt"):
            self.assertIsInstance(vars(Desk)[name], property)
            with self.assertRaises(AttributeError):
                setattr(desk, name, 1)


class ModeTest(DeskCase):
    """Point 49: the mode can be changed at any time."""

    def test_both_ways_to_change_it(self):
        desk = Desk(3)
        for mode in MODES + MODES[::-1]:
            desk.mode = mode
            self.assertEqual(desk.mode, mode)
        for mode in MODES:
            self.assertIsNone(desk.change_mode(mode))
            self.assertEqual(desk.mode, mode)

    def test_a_text_that_is_no_mode(self):
        desk = Desk(3, mode="guarded")
        desk.attempt(-1, -2)
        for name in ("", "odd", "Free", "checked "):
            self.assert_refuses(BadMode(name), desk, desk.change_mode, name)
            self.assert_refuses(BadMode(name), desk, setattr, desk, "mode", name)

    def test_later_operations_are_judged_by_the_new_mode(self):
        desk = Desk(3, mode="checked")
        desk.attempt(-1, -2)
        self.assert_refuses(Refused(1, 0, "checked"), desk, desk.do, 1)
        desk.mode = "guarded"
        desk.do(1)
        self.assert_refuses(Refused(-3, 0, "guarded"), desk, desk.do, -3)
        desk.change_mode("saving")
        desk.do(-3)
        self.assert_desk(desk, [-1, -2, 1, -3], mode="saving")
        # The checked mode judges the standing as it is, whatever led to it.
        desk.mode = "checked"
        self.assert_refuses(Refused(2, 0, "checked"), desk, desk.do, 2)
        self.assert_desk(desk, [-1, -2, 1, -3], mode="checked")

    def test_undo_and_redo_do_not_look_at_the_mode(self):
        desk = Desk(3)
        desk.do(-1)
        desk.attempt(-2, 1, -3)
        desk.mode = "checked"
        desk.undo()
        self.assert_desk(desk, [-1], mode="checked")
        self.assert_refuses(Refused(1, 2, "checked"), desk, desk.attempt, -3, -2, 1)
        desk.redo()
        self.assert_desk(desk, [-1, -2, 1, -3], mode="checked")
        desk.undo()
        desk.undo()
        desk.change_mode("guarded")
        desk.redo()
        desk.redo()
        self.assert_desk(desk, [-1, -2, 1, -3], mode="guarded")

    def test_a_change_of_the_mode_forgets_no_step(self):
        desk = Desk(3)
        desk.do(-1)
        desk.undo()
        desk.mode = "checked"
        desk.redo()
        self.assert_desk(desk, [-1])


class DoTest(DeskCase):
    def test_example(self):
        desk = Desk(3, mode="checked")
        desk.do(-1)
        desk.do(-2)
        self.assert_refuses(Refused(1, 0, "checked"), desk, desk.do, 1)

    def test_each_error(self):
        desk = Desk(3, mode="guarded", capacity=3)
        desk.attempt(-1, -2, 1)
        for operation in (0, 4, -4, 10 ** 20):
            self.assert_refuses(BadOperation(operation, 0), desk, desk.do, operation)
        for operation in (1, 3, -2):
            self.assert_refuses(Illegal(operation, 0), desk, desk.do, operation)
        # The desk is full, but what is refused is told first.
        self.assert_refuses(Refused(-3, 0, "guarded"), desk, desk.do, -3)
        for operation in (2, -1):
            self.assert_refuses(Full(3), desk, desk.do, operation)

    def test_a_full_desk(self):
        for capacity in (1, 2, 5, 2000):
            desk = Desk(1, capacity=capacity)
            for index in range(capacity):
                desk.do(-1 if index % 2 == 0 else 1)
            self.assertEqual(desk.length, capacity)
            self.assert_refuses(Full(capacity), desk, desk.do, -1 if capacity % 2 == 0 else 1)
            desk.undo()
            self.assertEqual(desk.length, capacity - 1)
            desk.do(-1 if capacity % 2 == 1 else 1)
            self.assertEqual(desk.length, capacity)


class AttemptTest(DeskCase):
    """Point 51."""

    def test_example(self):
        desk = Desk(3, mode="guarded")
        self.assert_refuses(Refused(-3, 3, "guarded"), desk, desk.attempt, -1, -2, 1, -3)

    def test_no_operation(self):
        desk = Desk(3, capacity=1)
        self.assertEqual(desk.attempt(), 0)
        self.assert_refuses(NothingToUndo(), desk, desk.undo)
        desk.do(-1)
        self.assertEqual(desk.attempt(), 0)
        desk.undo()
        # It makes no step, so it forgets none.
        self.assertEqual(desk.attempt(), 0)
        desk.redo()
        self.assert_desk(desk, [-1])

    def test_one_step(self):
        desk = Desk(3)
        desk.do(-3)
        self.assertEqual(desk.attempt(-1, -2, 1), 3)
        desk.undo()
        self.assert_desk(desk, [-3])
        desk.redo()
        self.assert_desk(desk, [-3, -1, -2, 1])

    def test_at_the_first_a_middle_and_the_last_operation(self):
        desk = Desk(4, mode="checked", capacity=6)
        desk.attempt(-1, -2)
        for before in ([], [-3], [-3, 3], [-3, -4, 4]):
            index = len(before)
            for behind in ([], [3, 0], [0, 0, 0]):
                for operation in (0, 5, -5):
                    error = BadOperation(operation, index)
                    self.assert_refuses(error, desk, desk.attempt, *before, operation, *behind)
                self.assert_refuses(Illegal(-1, index), desk, desk.attempt, *before, -1, *behind)
                self.assert_refuses(Refused(1, index, "checked"), desk, desk.attempt, *before, 1, *behind)
        for behind in ([], [0], [-1], [1]):
            self.assert_refuses(Full(6), desk, desk.attempt, -3, 3, -3, 3, -3, *behind)
        self.assert_refuses(BadOperation(0, 4), desk, desk.attempt, -3, 3, -3, 3, 0)
        self.assert_refuses(Illegal(3, 4), desk, desk.attempt, -3, 3, -3, 3, 3)
        self.assert_refuses(Refused(1, 4, "checked"), desk, desk.attempt, -3, 3, -3, 3, 1)
        self.assertEqual(desk.attempt(-3, 3, -3, 3), 4)

    def test_what_was_taken_back_is_kept_if_an_attempt_fails(self):
        desk = Desk(3)
        desk.attempt(-1, -2)
        desk.undo()
        self.assert_refuses(Illegal(3, 1), desk, desk.attempt, -1, 3)
        desk.redo()
        self.assert_desk(desk, [-1, -2])

    def test_the_weakest_refusing_mode(self):
        desk = Desk(4, mode="checked")
        self.assert_refuses(Refused(2, 2, "checked"), desk, desk.attempt, -2, -3, 2)
        desk.mode = "free"
        desk.attempt(*LOSS[:4])
        for mode in MODES[1:]:
            desk.mode = mode
            self.assert_refuses(Refused(-4, 0, "saving"), desk, desk.attempt, -4)


class StepTest(DeskCase):
    """Point 50."""

    def test_without_a_step(self):
        desk = Desk(3)
        self.assert_refuses(NothingToUndo(), desk, desk.undo)
        self.assert_refuses(NothingToRedo(), desk, desk.redo)
        desk.do(-1)
        self.assert_refuses(NothingToRedo(), desk, desk.redo)
        self.assertIsNone(desk.undo())
        self.assert_refuses(NothingToUndo(), desk, desk.undo)
        self.assertIsNone(desk.redo())
        self.assert_refuses(NothingToRedo(), desk, desk.redo)

    def test_a_new_step_forgets_what_was_taken_back(self):
        for act in (lambda desk: desk.do(-3), lambda desk: desk.attempt(-3), lambda desk: desk.retract(0),
                    lambda desk: desk.repair()):
            desk = Desk(3)
            desk.do(-1)
            desk.do(-2)
            desk.undo()
            act(desk)
            self.assertEqual(desk.length, 2)
            self.assert_refuses(NothingToRedo(), desk, desk.redo)

    def test_a_repair_and_a_retraction_are_steps(self):
        desk = Desk(3)
        desk.attempt(-1, -2, -3)
        self.assertEqual(desk.retract(1), 2)
        self.assertEqual(desk.repair(), first_repair(replay(3, [-1, -2, -3, 2])))
        desk.undo()
        self.assert_desk(desk, [-1, -2, -3, 2])
        desk.undo()
        self.assert_desk(desk, [-1, -2, -3])
        desk.redo()
        self.assert_desk(desk, [-1, -2, -3, 2])

    def test_the_standing_is_restored_as_it_was(self):
        # An unlink of node 2 and its relink would not give the links back that an undo gives back.
        desk = Desk(4)
        desk.attempt(*LOSS[:3])
        before = desk.links()
        desk.attempt(-1, -4)
        self.assertIsNone(desk.debt)
        desk.undo()
        self.assertEqual(desk.links(), before)
        self.assertEqual(desk.debt, 1)

    def test_many_steps(self):
        dice = random.Random(3)
        desk, logs = Desk(60, capacity=2000), [[]]
        while desk.length < 1900:
            nodes = [dice.randint(1, 60) for _ in range(dice.randint(1, 5))]
            desk.attempt(*signed(nodes, desk.links().outs()))
            logs.append(desk.log())
        for log in logs[-2::-1]:
            desk.undo()
            self.assertEqual(desk.log(), log)
        self.assertEqual(desk.links(), Links(60))
        for log in logs[1:]:
            desk.redo()
        self.assert_desk(desk, logs[-1])


class RetractTest(DeskCase):
    """Point 52."""

    def test_example(self):
        desk = Desk(3)
        desk.attempt(-1, -2, 1)
        self.assertEqual(desk.retract(1), 2)
        self.assert_desk(desk, [-1, -2, 1, 2])
        desk.undo()
        self.assert_desk(desk, [-1, -2, 1], mode="free", debt=1)

    def test_indexes(self):
        desk = Desk(3)
        for index in (-1, 0, 1):
            self.assert_refuses(BadIndex(index), desk, desk.retract, index)
        desk.attempt(-1, -2, 1)
        for index in (-1, -3, 3, 4, 10 ** 20):
            self.assert_refuses(BadIndex(index), desk, desk.retract, index)

    def test_not_the_last_operation_on_its_node(self):
        desk = Desk(3)
        desk.attempt(-1, -2, 1, -3, -1)
        for index in (0, 2):
            self.assert_refuses(Stale(index), desk, desk.retract, index)
        self.assertEqual(desk.retract(4), 1)
        self.assert_refuses(Stale(4), desk, desk.retract, 4)
        self.assertEqual(desk.retract(5), -1)
        self.assertEqual(desk.retract(1), 2)
        self.assertEqual(desk.retract(3), 3)
        self.assert_desk(desk, [-1, -2, 1, -3, -1, 1, -1, 2, 3])

    def test_the_mode_and_the_capacity(self):
        desk = Desk(3, mode="checked", capacity=2)
        desk.attempt(-1, -2)
        self.assert_refuses(Refused(1, 0, "checked"), desk, desk.retract, 0)
        self.assert_refuses(Full(2), desk, desk.retract, 1)
        self.assert_refuses(BadIndex(2), desk, desk.retract, 2)
        desk.mode = "guarded"
        self.assert_refuses(Full(2), desk, desk.retract, 0)
        desk = Desk(3, mode="guarded", capacity=4)
        desk.attempt(-3, 3, -1, -2)
        self.assert_refuses(Stale(0), desk, desk.retract, 0)
        desk = Desk(3, mode="guarded")
        desk.attempt(-3, 3, -1, -2, 1)
        self.assert_refuses(Refused(-3, 0, "guarded"), desk, desk.retract, 1)


class RepairTest(DeskCase):
    """Point 53."""

    def test_a_whole_list(self):
        desk = Desk(3, capacity=2)
        self.assertEqual(desk.repair(), [])
        desk.attempt(-1, 1)
        # The desk is full, but nothing is to be added.
        self.assertEqual(desk.repair(), [])
        desk.undo()
        self.assertEqual(desk.repair(), [])
        desk.redo()
        self.assert_desk(desk, [-1, 1])
        desk.undo()
        self.assert_refuses(NothingToUndo(), desk, desk.undo)

    def test_whatever_the_mode_is(self):
        for mode in MODES:
            desk = Desk(3)
            desk.attempt(-1, -2, 1, -3, 2, 3)
            desk.mode = mode
            self.assertEqual(desk.repair(), [-1, 1])
            self.assert_desk(desk, [-1, -2, 1, -3, 2, 3, -1, 1], debt=0, mode=mode)
            desk.undo()
            self.assertEqual(desk.length, 6)

    def test_a_lost_gap(self):
        for capacity in (5, 200):
            desk = Desk(4, capacity=capacity)
            desk.attempt(*LOSS)
            self.assert_refuses(NotRepairable(1), desk, desk.repair)

    def test_no_room(self):
        for capacity in (3, 4, 5):
            desk = Desk(3, capacity=capacity)
            desk.attempt(-1, -2, -3)
            self.assert_refuses(Full(capacity), desk, desk.repair)
        desk = Desk(3, capacity=6)
        desk.attempt(-1, -2, -3)
        self.assertEqual(desk.repair(), [1, 2, 3])

    def test_size_60(self):
        for nodes in (list(range(1, 61)), list(range(60, 0, -1)), random.Random(1).sample(range(1, 61), 60)):
            desk = Desk(60)
            desk.attempt(*[-node for node in nodes])
            if desk.debt is not None:
                self.assertEqual(len(self.at_once(desk.repair)), 60)
                self.assertTrue(desk.links().is_whole())


class ProbeTest(DeskCase):
    """Point 54."""

    def test_example(self):
        desk = Desk(3)
        self.assertEqual(probe(desk, -1, -2, 1), ["joined", "joined", "left", "joined"])
        self.assert_desk(desk, [])

    def test_without_operations(self):
        desk = Desk(3, mode="checked", capacity=1)
        self.assertEqual(probe(desk), ["joined"] * 4)
        desk.do(-1)
        self.assertEqual(probe(desk), gap_states(replay(3, [-1])))
        self.assertEqual(probe(Desk(0)), ["joined"])

    def test_the_desk_is_as_before(self):
        desk = Desk(4)
        desk.attempt(-1, -2)
        desk.do(-3)
        desk.undo()
        before = self.look(desk)
        self.assertEqual(probe(desk, 1, -3, 2), gap_states(replay(4, [-1, -2, 1, -3, 2])))
        self.assertEqual(self.look(desk), before)
        self.assert_new(probe, desk, 1)

    def test_an_error_within_it(self):
        desk = Desk(4, mode="checked", capacity=4)
        desk.attempt(-1, -2)
        desk.do(-3)
        desk.undo()
        for before in ([], [-3], [-3, 3]):
            index = len(before)
            self.assert_refuses(BadOperation(9, index), desk, probe, desk, *before, 9, 0)
            self.assert_refuses(Illegal(-1, index), desk, probe, desk, *before, -1, 0)
            self.assert_refuses(Refused(1, index, "checked"), desk, probe, desk, *before, 1, 0)
        self.assert_refuses(Full(4), desk, probe, desk, -3, 3, -3, 0)
        self.assert_refuses(Illegal(3, 2), desk, probe, desk, -3, 3, 3)
        self.assertEqual(probe(desk, -3, 3), gap_states(replay(4, [-1, -2])))


class TwinTest(DeskCase):
    def test_all_is_the_same(self):
        desk = Desk(4, mode="guarded", capacity=9)
        desk.attempt(-1, -2)
        desk.do(1)
        desk.do(2)
        desk.undo()
        desk.undo()
        twin = desk.twin()
        self.assertIsInstance(twin, Desk)
        self.assertEqual(self.look(twin), self.look(desk))
        twin.redo()
        twin.redo()
        self.assert_desk(twin, [-1, -2, 1, 2], mode="guarded", capacity=9)
        self.assert_desk(desk, [-1, -2])

    def test_nothing_is_shared(self):
        acts = [lambda desk: desk.do(-3), lambda desk: desk.attempt(-3, 3), lambda desk: desk.retract(0),
                lambda desk: desk.repair(), lambda desk: desk.undo(), lambda desk: desk.redo(),
                lambda desk: desk.change_mode("saving"), lambda desk: desk.log().clear(),
                lambda desk: desk.links().apply(-3)]
        for act in acts:
            for swapped in (False, True):
                desk = Desk(4)
                desk.do(-1)
                desk.attempt(-2, 2)
                desk.do(-4)
                desk.undo()
                one, other = (desk.twin(), desk) if swapped else (desk, desk.twin())
                before = self.look(other)
                act(one)
                self.assertEqual(self.look(other), before)
                act(other)
                self.assertEqual(self.look(other), self.look(one))

    def test_a_large_desk(self):
        desk = Desk(60, capacity=2000)
        for index in range(2000):
            desk.do(-1 if index % 2 == 0 else 1)
        twin = self.at_once(desk.twin)
        twin.undo()
        self.assertEqual((desk.length, twin.length), (2000, 1999))


class ReplayedTest(DeskCase):
    def test_ordinary(self):
        desk = Desk.replayed(3, "-1 -2 +1")
        self.assert_desk(desk, [-1, -2, 1], size=3, capacity=2000, mode="free", debt=1)
        desk = Desk.replayed(3, "-1 -2 +2", mode="checked")
        self.assert_desk(desk, [-1, -2, 2], size=3, capacity=2000, mode="checked", debt=1)
        for size in (0, 1, 60):
            desk = Desk.replayed(size, "")
            self.assert_desk(desk, [], size=size, capacity=2000)
            self.assert_refuses(NothingToUndo(), desk, desk.undo)

    def test_each_operation_is_a_step(self):
        desk = Desk.replayed(3, "-1 -2 +1")
        for log in ([-1, -2], [-1], []):
            desk.undo()
            self.assert_desk(desk, log)
        self.assert_refuses(NothingToUndo(), desk, desk.undo)
        desk.redo()
        self.assert_desk(desk, [-1])

    def test_sizes_and_modes(self):
        self.assert_error(BadSize(61), Desk.replayed, 61, "odd", mode="odd")
        self.assert_error(BadSize(-1), Desk.replayed, -1, "")
        self.assert_error(BadMode("odd"), Desk.replayed, 3, "odd", mode="odd")

    def test_a_text_that_cannot_be_read(self):
        for text, place in (("odd", 0), (" ", 0), ("-1 ", 1), ("-1 +1 1", 2), ("-9 +9 -0", 2), ("-1 -1 x", 2)):
            self.assert_error(BadText(place), Desk.replayed, 3, text)

    def test_a_log_that_cannot_be_done(self):
        self.assert_error(BadOperation(4, 1), Desk.replayed, 3, "-1 +4 -1")
        self.assert_error(BadOperation(-999999999, 0), Desk.replayed, 3, "-999999999")
        self.assert_error(BadOperation(-1, 0), Desk.replayed, 0, "-1")
        self.assert_error(Illegal(-1, 2), Desk.replayed, 3, "-1 -2 -1 +4")
        self.assert_error(Refused(1, 2, "checked"), Desk.replayed, 3, "-1 -2 +1 -1 +1 +1", mode="checked")
        self.assert_error(Refused(-3, 3, "guarded"), Desk.replayed, 3, "-1 -2 +1 -3", mode="guarded")
        self.assert_error(Refused(-4, 4, "saving"), Desk.replayed, 4, format_log(LOSS), mode="saving")
        self.assert_desk(Desk.replayed(4, format_log(LOSS)), LOSS, debt=None)

    def test_more_operations_than_the_capacity(self):
        log = [-1, 1] * 1000
        self.assert_desk(self.at_once(Desk.replayed, 60, format_log(log)), log)
        self.assert_error(Full(2000), Desk.replayed, 60, format_log(log + [-1]))
        self.assert_error(Full(2000), Desk.replayed, 60, format_log(log + [-1, -1, 61]))
        self.assert_error(Illegal(1, 2000), Desk.replayed, 60, format_log(log + [1]))
        self.assert_error(BadOperation(61, 2000), Desk.replayed, 60, format_log(log + [61]))
        self.assert_error(BadText(2001), Desk.replayed, 60, format_log(log + [-1]) + " odd")


class RandomTest(DeskCase):
    """All that a desk can do, against a second desk."""

    def random_operations(self, dice, plain):
        nodes = [dice.randint(1, plain.size) for _ in range(dice.randint(0, 4))]
        operations = signed(nodes, after(plain.size, plain.log()).out)
        if operations and dice.random() < 0.15:
            operations[dice.randrange(len(operations))] = dice.choice([0, 1, -1, 2, -2, plain.size + 1])
        return operations

    def expected(self, plain, name, value):
        """What the call returns, after the second desk has done it; or the error that is due."""
        log = plain.log()
        if name == "undo":
            if not plain.steps:
                return NothingToUndo()
            plain.undone.append(plain.steps.pop())
            return None
        if name == "redo":
            if not plain.undone:
                return NothingToRedo()
            plain.steps.append(plain.undone.pop())
            return None
        if name == "retract":
            if not 0 <= value < len(log):
                return BadIndex(value)
            if abs(log[value]) in [abs(operation) for operation in log[value + 1:]]:
                return Stale(value)
            error = plain.error_of([-log[value]])
            if error is None:
                plain.add([-log[value]])
            return error or -log[value]
        if name == "repair":
            lost = [gap for gap, state in enumerate(after(plain.size, log).states()) if state == "lost"]
            if lost:
                return NotRepairable(lost[0])
            repair = first_repair(replay(plain.size, log))
            if len(log) + len(repair) > plain.capacity:
                return Full(plain.capacity)
            plain.add(repair)
            return repair
        error = plain.error_of(value)
        if error is None and name == "probe":
            return after(plain.size, log + value).states()
        if error is None:
            plain.add(value)
        return error or len(value)

    def act(self, dice, desk, plain):
        name = dice.choice(["attempt"] * 5 + ["probe", "undo", "undo", "redo", "retract", "retract", "repair", "mode"])
        if name == "mode":
            plain.mode = desk.mode = dice.choice(MODES)
            return name
        value = None
        if name == "retract":
            value = dice.randint(-1, len(plain.log()))
        elif name in ("attempt", "probe"):
            value = self.random_operations(dice, plain)
        expected = self.expected(plain, name, value)
        try:
            if name == "probe":
                told = probe(desk, *value)
            elif name == "attempt":
                told = desk.attempt(*value)
            else:
                told = desk.retract(value) if name == "retract" else getattr(desk, name)()
        except LinkError as error:
            self.assertIs(type(error), type(expected), name)
            self.assertEqual(vars(error), vars(expected), name)
            return type(error).__name__
        self.assertEqual(told, expected, name)
        return name

    def test_random_acts(self):
        told = set()
        for seed in range(120):
            dice = random.Random(seed)
            size, capacity = dice.choice([1, 2, 3, 4, 4, 5, 6]), dice.choice([3, 8, 15, 40, 40])
            desk, plain = Desk(size, capacity=capacity), PlainDesk(size, "free", capacity)
            for _ in range(40):
                told.add(self.act(dice, desk, plain))
                log = plain.log()
                self.assertEqual((desk.log(), desk.length, desk.mode), (log, len(log), plain.mode))
                self.assertEqual(desk.links().dump(), after(size, log).dump())
                if dice.random() < 0.05:
                    desk = desk.twin()
        self.assertEqual(told, {"attempt", "probe", "undo", "redo", "retract", "repair", "mode", "BadOperation", "Illegal",
                                "Refused", "Full", "BadIndex", "Stale", "NothingToUndo", "NothingToRedo",
                                "NotRepairable"})
        self.assertEqual(Model(3).dump(), Desk(3).links().dump())


if __name__ == "__main__":
    unittest.main()
