"""Logs in which each node goes once: points 2, 3 and 28 to 30."""

import random
import unittest

from latelink.debts import debt_of, is_repairable
from latelink.errors import BadOperation, BadSize, Illegal, NotOnce
from latelink.gaps import gap_states, sole_holders
from latelink.links import Links
from latelink.modes import admits
from latelink.once import is_complete, late_writes, safe_next
from latelink.replay import replay
from tests.helpers import LinkCase
from tests.model import Model, legal_logs, signed

LOG = [-1, -2, 1, -3, 2, 3]
FUNCTIONS = (late_writes, is_complete, safe_next)


def once_only_logs(size, log=()):
    """All once-only logs of the size."""
    yield list(log)
    for node in range(1, size + 1):
        operation = -node if -node not in log else node
        if operation not in log:
            yield from once_only_logs(size, log + (operation,))


def late_by_definition(size, log):
    """Point 29."""
    model, back, found = Model(size), set(), []
    for index, operation in enumerate(log):
        x = abs(operation)
        l, r = model.left[x], model.right[x]
        if l != x - 1 and l + 1 in back:
            found.append((index, l))
        if r != x + 1 and r - 1 in back:
            found.append((index, r - 1))
        model.apply(operation)
        if operation > 0:
            back.add(x)
    return found


def random_logs(size, many):
    dice = random.Random(size)
    for _ in range(many):
        nodes = [node for node in dice.sample(range(1, size + 1), dice.randint(1, size)) for _ in range(2)]
        dice.shuffle(nodes)
        yield signed(nodes[:dice.randint(0, len(nodes))])


class OnceOnlyTest(LinkCase):
    """Point 28."""

    def test_the_empty_log(self):
        for size in (0, 1, 60):
            self.assert_told([], late_writes, size, [])
            self.assert_told(True, is_complete, size, [])
            self.assert_told([-node for node in range(1, size + 1)], safe_next, size, [])

    def test_complete(self):
        self.assert_told(True, is_complete, 3, LOG)
        self.assert_told(False, is_complete, 3, LOG[:5])
        self.assert_told(True, is_complete, 3, [-2, 2])
        self.assert_told(False, is_complete, 3, [-2])
        self.assert_told(False, is_complete, 3, [-1, 1, -2])
        self.assert_told(False, is_complete, 1, [-1])
        self.assert_told(True, is_complete, 1, [-1, 1])
        nodes = list(range(1, 61))
        self.assert_told(False, is_complete, 60, [-node for node in nodes])
        self.assert_told(True, is_complete, 60, [-node for node in nodes] + nodes)
        self.assert_told(False, is_complete, 60, [-node for node in nodes] + nodes[:-1])

    def test_the_second_unlink(self):
        for function in FUNCTIONS:
            self.assert_error(NotOnce(2), function, 1, [-1, 1, -1])
            self.assert_error(NotOnce(2), function, 1, [-1, 1, -1, 1, -1])
            self.assert_error(NotOnce(4), function, 3, [-1, -2, -3, 2, -2, 1, -1])
            self.assert_error(NotOnce(4), function, 3, [-1, -2, 1, 2, -2, -1])
            self.assert_error(NotOnce(120), function, 60, [-node for node in range(1, 61)] + list(range(1, 61)) + [-60])

    def test_every_legal_log(self):
        for size, longest in ((1, 5), (2, 6), (3, 6)):
            for log in legal_logs(size, longest):
                again = [index for index, operation in enumerate(log) if operation < 0 and operation in log[:index]]
                for function in FUNCTIONS:
                    if again:
                        self.assert_error(NotOnce(again[0]), function, size, log)
                    else:
                        self.told(function, size, log)
                if not again:
                    self.assert_told(replay(size, log).outs() == [], is_complete, size, log)

    def test_errors(self):
        for function in FUNCTIONS:
            self.assert_error(BadSize(61), function, 61, [0])
            self.assert_error(BadSize(-1), function, -1, [])
            self.assert_error(BadOperation(0, 1), function, 3, [-1, 0, -1])
            self.assert_error(BadOperation(-4, 0), function, 3, [-4])
            self.assert_error(BadOperation(1, 0), function, 0, [1])
            self.assert_error(Illegal(-1, 1), function, 3, [-1, -1, 0])
            self.assert_error(Illegal(2, 0), function, 3, [2])
            # Only a legal log is told not to be once-only.
            self.assert_error(Illegal(-1, 3), function, 3, [-1, 1, -1, -1])
            self.assert_error(Illegal(3, 5), function, 3, [-1, 1, -1, 1, -1, 3, 0])
            self.assert_error(BadOperation(4, 3), function, 3, [-1, 1, -1, 4, 2])
            self.assert_error(BadOperation(0, 1), function, 3, [-1, 0, 1, -1])
            self.assert_error(Illegal(2, 1), function, 3, [-1, 2, 1, -1])


class LateWriteTest(LinkCase):
    """Point 29."""

    def test_examples(self):
        self.assert_told([(3, 0)], late_writes, 3, LOG)
        self.assert_told([2], safe_next, 3, [-1, -2, 1])

    def test_ordinary(self):
        self.assert_told([], late_writes, 3, [-1, -2, -3, 3, 2, 1])
        self.assert_told([(4, 0)], late_writes, 3, [-1, -2, -3, 1, 3, 2])
        self.assert_told([(3, 3)], late_writes, 3, [-3, -2, 3, -1, 2, 1])

    def test_two_late_writes_of_one_operation(self):
        found = [log for log in random_logs(7, 3000)
                 if len({index for index, _ in late_by_definition(7, log)}) < len(late_by_definition(7, log))]
        self.assertTrue(found)
        for log in found:
            self.assert_told(late_by_definition(7, log), late_writes, 7, log)

    def test_the_sentinels_are_never_back(self):
        for size in (1, 2, 3, 60):
            nodes = list(range(1, size + 1))
            self.assert_told([], late_writes, size, [-node for node in nodes])
            self.assert_told([], late_writes, size, [-node for node in nodes] + nodes[::-1])
            self.assert_told([], late_writes, size, [-node for node in nodes[::-1]] + nodes)

    def test_every_once_only_log(self):
        for size in (0, 1, 2, 3):
            for log in once_only_logs(size):
                self.assert_told(late_by_definition(size, log), late_writes, size, log)

    def test_random_logs(self):
        for size in (5, 12, 60):
            for log in random_logs(size, 60):
                self.assertEqual(self.at_once(late_writes, size, log), late_by_definition(size, log), log)

    def test_lists_are_new(self):
        self.assert_new(late_writes, 3, LOG)
        self.assert_new(late_writes, 3, [])
        self.assert_new(safe_next, 3, [-1])


class SafeNextTest(LinkCase):
    def test_ordinary(self):
        self.assert_told([1, -2, -3], safe_next, 3, [-1])
        self.assert_told([-2, -3], safe_next, 3, [-1, 1])
        self.assert_told([], safe_next, 3, LOG)
        self.assert_told([], safe_next, 0, [])
        self.assert_told([], safe_next, 1, [-1, 1])
        self.assert_told(list(range(1, 61)), safe_next, 60, [-node for node in range(60, 0, -1)])

    def test_a_log_with_late_writes_goes_on(self):
        # A relink of node 3 would be one more late write at the gap 0.
        self.assert_told([2], safe_next, 3, LOG[:4])
        self.assert_told([3], safe_next, 3, LOG[:5])

    def test_every_once_only_log(self):
        for size in (1, 2, 3):
            logs = [log for log in once_only_logs(size)]
            for log in logs:
                further = []
                for node in range(1, size + 1):
                    for operation in (-node, node):
                        longer = log + [operation]
                        if longer in logs and all(index < len(log) for index, _ in late_by_definition(size, longer)):
                            further.append(operation)
                self.assert_told(further, safe_next, size, log)

    def test_size_60(self):
        for log in random_logs(60, 30):
            links = replay(60, log)
            for operation in self.at_once(safe_next, 60, log):
                self.assertEqual(late_writes(60, log + [operation]), late_writes(60, log))
                self.assertEqual(links.is_out(abs(operation)), operation > 0)


class MainFactTest(LinkCase):
    """Point 30."""

    def complete_logs(self):
        for size in (0, 1, 2, 3):
            yield from [(size, log) for log in once_only_logs(size) if is_complete(size, log)]
        for size in (4, 5, 7, 20):
            yield from [(size, log) for log in random_logs(size, 700) if is_complete(size, log)]

    def test_complete_logs(self):
        whole = 0
        for size, log in self.complete_logs():
            late = {gap for _, gap in late_writes(size, log)}
            parted = {gap for gap, state in enumerate(gap_states(replay(size, log))) if state != "joined"}
            self.assertEqual(late, parted, log)
            self.assertIs(replay(size, log).is_whole(), not late)
            whole += not late
        self.assertGreater(whole, 100)

    def test_logs_without_late_writes(self):
        logs = [(size, log) for size in (0, 1, 2, 3) for log in once_only_logs(size)]
        logs += [(6, log) for log in random_logs(6, 500)]
        for size, log in logs:
            if not late_writes(size, log):
                links = replay(size, log)
                self.assertTrue(is_repairable(links), log)
                self.assertTrue(all(links.is_out(node) for node in sole_holders(links)), log)
                self.assertEqual(debt_of(links), len(links.outs()), log)
                further = safe_next(size, log)
                for node in range(1, size + 1):
                    operation = node if links.is_out(node) else -node
                    if operation not in log:
                        admitted = admits(links, operation, mode="guarded")
                        self.assertIs(operation in further, admitted, (log, operation))
        self.assertEqual(Links(3), replay(3, []))


if __name__ == "__main__":
    unittest.main()
