"""Certificates of loss: points 2, 3 and 27."""

import random
import unittest
from itertools import product

from latelink.errors import BadOperation, BadSize, Illegal, NotLost
from latelink.links import Links
from latelink.losses import is_loss_certificate, loss_certificate
from latelink.ops import mirror
from tests.helpers import LinkCase
from tests.model import after, legal_logs, signed

LOSING = [-2, -3, 2, -1, -4]
# The gap 6 is lost by the operation 4, and then the gap 1 by the operation 9.
LOSING_TWO = [-7, -8, 7, -6, -9] + LOSING


def certificates(size, log):
    """All certificates, by going through all triples that are conceivable."""
    states = [after(size, log[:length]).states() for length in range(len(log) + 1)]
    found = []
    for gap in range(size + 1):
        row = [state[gap] for state in states]
        for first, second in product(range(len(log)), repeat=2):
            parted = row[first] == "joined" and row[first + 1] in ("left", "right")
            lost = row[second] != "lost" and row[second + 1] == "lost"
            if first < second and parted and lost and len(set(row[first + 1:second + 1])) == 1:
                found.append((gap, first, second))
    return found


def losing_logs():
    """Logs of several sizes after which some gap is lost, and as many that are a little shorter."""
    dice = random.Random(27)
    found = [LOSING, LOSING + [4, 1, -2], [-4, 4] + LOSING, [-3, -2, 3, -4, -1]]
    for _ in range(1500):
        log = signed(dice.choices(range(1, 7), k=dice.randint(5, 12)))
        if after(6, log).is_lost():
            found.extend([log, log[:-1]])
    return found


class LossTest(LinkCase):
    def test_example(self):
        self.assert_told((1, 3, 4), loss_certificate, 4, LOSING)
        self.assert_told(True, is_loss_certificate, 4, LOSING, (1, 3, 4))

    def test_what_follows_does_not_matter(self):
        for more in ([4], [4, 1, -2], [1, 4, 3], [-2, 2] * 5):
            self.assert_told((1, 3, 4), loss_certificate, 4, LOSING + more)
        self.assert_told((1, 5, 6), loss_certificate, 4, [-4, 4] + LOSING)
        self.assert_told((1, 5, 6), loss_certificate, 60, [-60, 60] + LOSING)

    def test_the_last_time_that_the_gap_was_parted(self):
        # The gap 1 is parted and joined again before it is lost.
        self.assert_told((1, 5, 6), loss_certificate, 4, [-1, 1] + LOSING)
        self.assert_told((1, 7, 8), loss_certificate, 4, [-2, 2, -1, 1] + LOSING)

    def test_the_mirrored_log(self):
        self.assert_told((3, 3, 4), loss_certificate, 4, mirror(4, LOSING))

    def test_several_lost_gaps(self):
        self.assert_told((1, 8, 9), loss_certificate, 9, LOSING_TWO)
        for value in ((1, 8, 9), (6, 3, 4)):
            self.assert_told(True, is_loss_certificate, 9, LOSING_TWO, value)
        for value in ((1, 3, 4), (6, 8, 9), (1, 8, 4), (6, 3, 9), (2, 8, 9), (0, 8, 9)):
            self.assert_told(False, is_loss_certificate, 9, LOSING_TWO, value)

    def test_a_search_for_certificates(self):
        several = 0
        for log in losing_logs():
            size = max(map(abs, log))
            expected = certificates(size, log)
            lost = [gap for gap, state in enumerate(after(size, log).states()) if state == "lost"]
            # There is exactly one for each lost gap.
            self.assertEqual([gap for gap, _, _ in expected], lost, log)
            several += len(lost) > 1
            if lost:
                self.assert_told(expected[0], loss_certificate, size, log)
            else:
                self.assert_error(NotLost(size), loss_certificate, size, log)
            for value in product(range(size + 1), range(len(log)), range(len(log))):
                if value[1] <= value[2]:
                    self.assertIs(is_loss_certificate(size, log, value), value in expected, (log, value))
        self.assertTrue(several)

    def test_no_loss(self):
        for size, log in ((0, []), (1, [-1]), (3, [-1, -2, 1, -3, 2, 3]), (60, []), (4, LOSING[:4]), (60, [-60, 60])):
            self.assert_error(NotLost(size), loss_certificate, size, log)
            for value in ((0, 0, 0), (1, 3, 4), None, (0, 0, 1), (-1, -1, -1)):
                self.assert_told(False, is_loss_certificate, size, log, value)
        for log in legal_logs(3, 5):
            self.assert_error(NotLost(3), loss_certificate, 3, log)

    def test_a_long_log(self):
        log = [sign * node for _ in range(15) for node in range(1, 61) for sign in (-1, 1)]
        self.assertEqual(self.at_once(loss_certificate, 60, log + LOSING), (1, 1803, 1804))
        self.assertIs(self.at_once(is_loss_certificate, 60, log + LOSING, (1, 1803, 1804)), True)

    def test_values_that_are_no_certificate(self):
        for value in (None, 1, "", "1 3 4", [], [1, 3, 4], (), (1,), (1, 3), (1, 3, 4, 4), (1, 3, 4, 0), (1, 4, 3),
                      (1, 3, 3), (1, 4, 4), (1, 2, 4), (0, 3, 4), (2, 3, 4), (1, -2, -1), (1, 3, -1), (-4, 3, 4),
                      (1, 3, 5), (99, 3, 4), ("1", "3", "4"), (1, 3, "4"), (1.0, 3, 4), (1, 3.0, 4.0), (None, 3, 4),
                      (1, None, 4), (1, 3, None), ((1, 3, 4),), ([1], 3, 4), (1, [3], 4), {1: 3}, {1, 3, 4}, b"134",
                      Links(4), True, False, (1, 3, (4,))):
            self.assert_told(False, is_loss_certificate, 4, LOSING, value)

    def test_true_and_false_are_not_integers(self):
        self.assert_told(False, is_loss_certificate, 4, LOSING, (True, 3, 4))
        for value in ((False, 3, 4), (1, True, 4), (1, 3, True), (True, False, False), (True, True, True)):
            self.assert_told(False, is_loss_certificate, 4, LOSING, value)

    def test_a_member_that_says_that_it_is_equal(self):
        class Equal:
            def __eq__(self, other):
                return True

        for value in ((Equal(), 3, 4), (1, Equal(), 4), (1, 3, Equal()), Equal()):
            self.assertIs(is_loss_certificate(4, LOSING, value), False)


class ErrorTest(LinkCase):
    def test_errors(self):
        for function, more in ((loss_certificate, ()), (is_loss_certificate, (None,)), (is_loss_certificate, ((1, 3, 4),))):
            self.assert_error(BadSize(61), function, 61, [0], *more)
            self.assert_error(BadSize(-1), function, -1, LOSING, *more)
            self.assert_error(BadOperation(0, 1), function, 4, [-1, 0, -1], *more)
            self.assert_error(BadOperation(-4, 4), function, 3, LOSING, *more)
            self.assert_error(Illegal(-1, 1), function, 4, [-1, -1, 0], *more)
            self.assert_error(Illegal(2, 0), function, 4, [2, 9], *more)

    def test_errors_behind_the_loss(self):
        for function, more in ((loss_certificate, ()), (is_loss_certificate, ((1, 3, 4),)), (is_loss_certificate, (7,))):
            self.assert_error(Illegal(-4, 5), function, 4, LOSING + [-4], *more)
            self.assert_error(BadOperation(5, 6), function, 4, LOSING + [4, 5, 4], *more)
            self.assert_error(BadOperation(0, 5), function, 4, LOSING + [0, -4], *more)


if __name__ == "__main__":
    unittest.main()
