"""Gaps: points 2, 3, 15 and 16."""

import unittest

from latelink.errors import BadGap, BadOperation, Illegal
from latelink.gaps import foreign_writes, gap_changes, gap_state, gap_states, lost_gaps, sole_holders
from latelink.links import Links
from latelink.replay import play, replay
from tests.helpers import LinkCase
from tests.model import all_dumps, of_dump, reached

LOSING = [-2, -3, 2, -1, -4]
# Before the last operation, the gap 1 is held by node 1 alone and the gap 6 by node 7 alone.
LOSING_TWO = [-2, -3, 2, -1, -6, -5, 6, -7, -4]
OF_AN_OPERATION = (gap_changes, foreign_writes)


def some_dumps():
    """All standings of the sizes 0 to 2, and many of size 3, also those that no log reaches."""
    for size in (0, 1, 2):
        yield from all_dumps(size)
    yield from list(all_dumps(3))[::3]


class HoldingTest(LinkCase):
    """Point 15."""

    def test_example(self):
        links = replay(3, [-1, -2, 1])
        self.assert_told(["joined", "joined", "left", "joined"], gap_states, links)
        self.assert_told([(0, "joined", "right"), (3, "joined", "left")], gap_changes, links, -3)

    def test_the_four_states(self):
        links = Links.read("1 3 4 4 | 0 1 1 3 | none")
        self.assert_told("joined", gap_state, links, 0)
        self.assert_told("right", gap_state, links, 1)
        self.assert_told("lost", gap_state, links, 2)
        self.assert_told("joined", gap_state, links, 3)
        self.assert_told("left", gap_state, replay(3, [-1]), 1)

    def test_the_whole_list(self):
        for size in (0, 1, 4, 60):
            self.assert_told(["joined"] * (size + 1), gap_states, Links(size))
            self.assert_told([], lost_gaps, Links(size))
            self.assert_told([], sole_holders, Links(size))

    def test_the_first_and_the_last_gap(self):
        for size in (1, 4, 60):
            links = replay(size, [-1])
            self.assert_told("right", gap_state, links, 0)
            links = replay(size, [-size])
            self.assert_told("left", gap_state, links, size)
        self.assert_told("joined", gap_state, Links(0), 0)

    def test_no_gap(self):
        for size in (0, 3, 60):
            for gap in (-1, size + 1, 100, -61):
                self.assert_error(BadGap(gap), gap_state, Links(size), gap)

    def test_a_sole_holder_in_and_one_that_is_out(self):
        self.assert_told([1], sole_holders, replay(3, [-1]))
        self.assert_told([2], sole_holders, replay(3, [-1, -2, 1]))
        self.assert_told([1, 2, 3], sole_holders, replay(3, [-1, -2, 1, -3]))
        self.assert_told([1], sole_holders, replay(3, [-1, -2, 1, -3, 2, 3]))
        self.assert_told([2, 4], sole_holders, replay(5, [-4, -2]))

    def test_every_standing(self):
        for dump in some_dumps():
            links, model = Links.read(dump), of_dump(dump)
            states = model.states()
            self.assertEqual(self.told(gap_states, links), states, dump)
            self.assertEqual([gap_state(links, gap) for gap in range(links.size + 1)], states, dump)
            self.assertEqual(lost_gaps(links), [gap for gap, state in enumerate(states) if state == "lost"], dump)
            self.assertEqual(sole_holders(links), sorted(model.sole_holders()), dump)
            self.assertNotIn(0, sole_holders(links))
            self.assertNotIn(links.size + 1, sole_holders(links))

    def test_lost_gaps(self):
        self.assert_told([1], lost_gaps, replay(4, LOSING))
        self.assert_told([], lost_gaps, replay(4, LOSING[:4]))
        self.assert_told([1, 6], lost_gaps, replay(7, LOSING_TWO))


class ChangeTest(LinkCase):
    """Point 16."""

    def expected(self, model, operation):
        """What point 16 says of an operation, in its words."""
        x, states = abs(operation), model.states()
        l, r = model.left[x], model.right[x]
        changes = {}
        if l == x - 1:
            changes[x - 1] = "joined" if operation > 0 else "right"
        if r == x + 1:
            changes[x] = "joined" if operation > 0 else "left"
        if l != x - 1 and model.right[l] == l + 1:
            changes[l] = {"joined": "right", "left": "lost"}[states[l]]
        if r != x + 1 and model.left[r] == r - 1:
            changes[r - 1] = {"joined": "left", "right": "lost"}[states[r - 1]]
        return [(gap, states[gap], changes[gap]) for gap in sorted(changes) if changes[gap] != states[gap]]

    def test_every_operation_on_every_standing(self):
        for dump in some_dumps():
            links, model = Links.read(dump), of_dump(dump)
            for operation in model.legal():
                told = self.told(gap_changes, links, operation)
                self.assertEqual(told, self.expected(model, operation), (dump, operation))
                self.assertEqual(self.told(foreign_writes, links, operation), model.foreign_writes(operation))

    def test_a_lost_gap_stays_lost(self):
        for dump in some_dumps():
            links = Links.read(dump)
            for operation in of_dump(dump).legal():
                later = lost_gaps(play(links, [operation]))
                self.assertEqual([gap for gap in lost_gaps(links) if gap not in later], [], (dump, operation))

    def test_own_gaps(self):
        links = Links(3)
        self.assert_told([(1, "joined", "right"), (2, "joined", "left")], gap_changes, links, -2)
        self.assert_told([(1, "right", "joined"), (2, "left", "joined")], gap_changes, replay(3, [-2]), 2)
        self.assert_told([(0, "joined", "right"), (1, "joined", "left")], gap_changes, Links(1), -1)
        self.assert_told([(59, "joined", "right"), (60, "joined", "left")], gap_changes, Links(60), -60)
        self.assert_told([], foreign_writes, links, -2)

    def test_foreign_writes(self):
        links = replay(3, [-1, -2, 1])
        self.assert_told([0], foreign_writes, links, -3)
        self.assert_told([], foreign_writes, links, -1)
        self.assert_told([], foreign_writes, links, 2)
        links = replay(3, [-3, -2, 3])
        self.assert_told([3], foreign_writes, links, -1)
        self.assert_told([(0, "joined", "right"), (3, "joined", "left")], gap_changes, links, -1)

    def test_a_foreign_write_on_each_side(self):
        for outs, operation in (("none", -3), ("3", 3)):
            links = Links.read("1 2 3 5 5 6 | 0 1 1 3 4 5 | " + outs)
            self.assert_told([1, 4], foreign_writes, links, operation)
            self.assert_told([(1, "joined", "right"), (4, "joined", "left")], gap_changes, links, operation)

    def test_losses(self):
        links = replay(4, LOSING[:-1])
        self.assert_told([1], foreign_writes, links, -4)
        self.assert_told([(1, "left", "lost"), (4, "joined", "left")], gap_changes, links, -4)

    def test_two_losses_at_once(self):
        links = replay(7, LOSING_TWO[:-1])
        self.assert_told([], lost_gaps, links)
        self.assert_told([1, 6], foreign_writes, links, -4)
        self.assert_told([(1, "left", "lost"), (6, "right", "lost")], gap_changes, links, -4)

    def test_a_link_that_is_written_without_a_change(self):
        links = replay(3, [-1, -2, 1])
        self.assertEqual((links.right(1), play(links, [2]).right(1)), (2, 2))
        self.assert_told([], foreign_writes, links, 2)
        self.assert_told([(2, "left", "joined")], gap_changes, links, 2)

    def test_errors(self):
        links = replay(3, [-1])
        for function in OF_AN_OPERATION:
            for operation in (0, 4, -4, 99):
                self.assert_error(BadOperation(operation, 0), function, links, operation)
            for operation in (-1, 2, 3):
                self.assert_error(Illegal(operation, 0), function, links, operation)
            self.assert_error(BadOperation(1, 0), function, Links(0), 1)
            self.assert_error(BadOperation(-61, 0), function, Links(60), -61)
        self.assertEqual(links, replay(3, [-1]))

    def test_lists_are_new(self):
        links = replay(4, LOSING)
        for function in (gap_states, lost_gaps, sole_holders):
            self.assert_new(function, links)
        for function in OF_AN_OPERATION:
            self.assert_new(function, links, 2 if 2 in links.outs() else -2)
            self.assert_new(function, replay(3, [-1, -2, 1, -3]), 2)

    def test_no_gap_is_lost_on_at_most_three_nodes(self):
        for size in (0, 1, 2, 3):
            for dump in reached(size, 20):
                self.assertEqual(lost_gaps(Links.read(dump)), [], dump)


if __name__ == "__main__":
    unittest.main()
