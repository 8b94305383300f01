"""What decided a gap: points 2, 3, 17 and 18."""

import unittest

from latelink.errors import BadGap, BadOperation, BadSize, Illegal
from latelink.gaps import gap_state
from latelink.replay import replay
from latelink.writers import decided_by, foreign_after, last_actor, writers
from tests.helpers import LinkCase
from tests.model import Model, after, legal_logs

LOG = [-1, -2, 1, -3, 2, 3]
OF_A_GAP = (last_actor, foreign_after, decided_by)


def moments(size, log):
    """For each operation: its index, its node, the links of the node, and the states before and after it."""
    model, told = Model(size), []
    for index, operation in enumerate(log):
        x, before = abs(operation), model.states()
        l, r = model.left[x], model.right[x]
        model.apply(operation)
        told.append((index, x, l, r, before, model.states()))
    return told


def naive(size, log, gap):
    """The last actor, the first foreign touch after it, and the deciding operation, in the words of point 17."""
    rows = moments(size, log)
    actors = [(index, x, (r if x == gap else l) == (gap + 1 if x == gap else gap))
              for index, x, l, r, _, _ in rows if x in (gap, gap + 1)]
    actor = actors[-1] if actors else None
    touches = [index for index, x, l, r, _, _ in rows
               if x not in (gap, gap + 1) and (l == gap or r == gap + 1) and (actor is None or index > actor[0])]
    changes = [index for index, _, _, _, before, now in rows if before[gap] != now[gap]]
    return actor, (touches[0] if touches else None), (changes[-1] if changes else -1)


class WritersTest(LinkCase):
    def test_examples(self):
        self.assert_told((2, 1, True), last_actor, 3, LOG, 0)
        self.assert_told(3, foreign_after, 3, LOG, 0)

    def test_writers(self):
        self.assert_told(([-1], [-1]), writers, 0, [])
        self.assert_told(([1, -1], [-1, 1]), writers, 1, [-1, 1])
        self.assert_told(([-1] * 61, [-1] * 61), writers, 60, [])
        self.assert_told(([0] + [-1] * 58 + [1, -1], [-1, 0] + [-1] * 58 + [1]), writers, 60, [-1, -60])

    def test_a_write_without_a_change_is_a_write(self):
        self.assertEqual((after(2, [-1, -2, 1]).right[1], after(2, [-1, -2, 1, 2]).right[1]), (2, 2))
        self.assert_told(([2, 3, -1], [-1, 2, 3]), writers, 2, [-1, -2, 1, 2])
        self.assert_told(([2, -1, -1], [-1, 2, 1]), writers, 2, [-1, -2, 1])

    def test_every_legal_log(self):
        for log in legal_logs(3, 6):
            rights, lefts = [-1] * 4, [-1] * 4
            for index, _, l, r, _, _ in moments(3, log):
                rights[l], lefts[r - 1] = index, index
            self.assertEqual(writers(3, log), (rights, lefts), log)
            for gap in range(4):
                told = last_actor(3, log, gap), foreign_after(3, log, gap), decided_by(3, log, gap)
                self.assertEqual(told, naive(3, log, gap), (log, gap))

    def test_long_logs_in_which_gaps_are_lost(self):
        for more in legal_logs(4, 3):
            log = [-2, -3, 2, -1, -4] + after(4, [-2, -3, 2, -1, -4]).legal()[:len(more)]
            for gap in range(5):
                told = last_actor(4, log, gap), foreign_after(4, log, gap), decided_by(4, log, gap)
                self.assertEqual(told, naive(4, log, gap), (log, gap))

    def test_last_actor(self):
        self.assert_told(None, last_actor, 0, [], 0)
        self.assert_told(None, last_actor, 3, [-1, 1], 2)
        self.assert_told((0, 3, True), last_actor, 3, [-3], 2)
        self.assert_told((0, 3, True), last_actor, 3, [-3], 3)
        self.assert_told((1, 1, True), last_actor, 3, [-3, -1], 0)
        self.assert_told((1, 2, False), last_actor, 3, [-1, -2], 1)
        self.assert_told((1, 60, True), last_actor, 60, [-59, -60], 60)

    def test_sentinels_never_act(self):
        self.assert_told(None, last_actor, 2, [-2, 2], 0)
        self.assert_told(None, last_actor, 2, [-1, 1], 2)

    def test_foreign_after(self):
        self.assert_told(None, foreign_after, 0, [], 0)
        self.assert_told(None, foreign_after, 3, [], 1)
        self.assert_told(None, foreign_after, 3, [-1], 0)
        self.assert_told(1, foreign_after, 3, [-1, -2], 0)
        self.assert_told(None, foreign_after, 3, [-1, -2, 1], 0)
        self.assert_told(None, foreign_after, 3, [-1, -2], 3)
        self.assert_told(1, foreign_after, 3, [-3, -2, -1], 3)
        self.assert_told(2, foreign_after, 3, [-1, -3, -2], 3)
        self.assert_told(1, foreign_after, 60, [-60, -59], 60)

    def test_decided_by(self):
        self.assert_told(-1, decided_by, 0, [], 0)
        self.assert_told(-1, decided_by, 60, [-1, 1], 60)
        self.assert_told(3, decided_by, 3, LOG, 0)
        self.assert_told(0, decided_by, 3, [-1, -2], 0)
        self.assert_told(4, decided_by, 4, [-2, -3, 2, -1, -4], 1)
        self.assert_told(1, decided_by, 60, [-60, 60], 60)

    def test_errors_of_the_log(self):
        for function, more in ((writers, ()), (last_actor, (9,)), (foreign_after, (-1,)), (decided_by, (9,))):
            self.assert_error(BadSize(61), function, 61, [0], *more)
            self.assert_error(BadSize(-1), function, -1, [], *more)
            self.assert_error(BadOperation(0, 1), function, 3, [-1, 0, -1], *more)
            self.assert_error(BadOperation(4, 2), function, 3, [-1, 1, 4, 4], *more)
            self.assert_error(Illegal(-1, 1), function, 3, [-1, -1, 0], *more)
            self.assert_error(Illegal(2, 0), function, 3, [2, 9], *more)

    def test_errors_behind_the_answer(self):
        self.assert_error(Illegal(-2, 2), foreign_after, 3, [-1, -2, -2], 0)
        self.assert_error(BadOperation(0, 2), foreign_after, 3, [-1, -2, 0], 0)

    def test_no_gap(self):
        for function in OF_A_GAP:
            for gap in (-1, 4, 61, -61):
                self.assert_error(BadGap(gap), function, 3, [-1], gap)
            self.assert_error(BadGap(1), function, 0, [], 1)
            self.assert_error(BadGap(61), function, 60, [], 61)
            function(0, [], 0)
            function(60, [], 60)

    def test_lists_are_new(self):
        first = writers(3, LOG)
        first[0].append(9)
        first[1].clear()
        self.assertNotEqual(writers(3, LOG), first)
        self.assertIsNot(first[0], first[1])


class MainFactTest(LinkCase):
    """Point 18."""

    def check(self, size, log):
        links = replay(size, log)
        kept = []
        for gap in range(size + 1):
            actor = last_actor(size, log, gap)
            kept.append(actor is None or (actor[2] and foreign_after(size, log, gap) is None))
            if not links.is_out(gap) and not links.is_out(gap + 1):
                self.assertEqual(gap_state(links, gap) == "joined", kept[gap], (log, gap))
        if links.outs() == []:
            self.assertEqual(links.is_whole(), all(kept), log)

    def test_small_lists(self):
        for size, longest in ((1, 8), (2, 8), (3, 6), (4, 5)):
            for log in legal_logs(size, longest):
                self.check(size, log)


if __name__ == "__main__":
    unittest.main()
