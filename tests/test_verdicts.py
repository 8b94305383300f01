"""Verdicts and certificates: points 2, 3 and 19."""

import unittest

from latelink.errors import BadGap, BadOperation, BadSize, Illegal
from latelink.links import Links
from latelink.replay import replay
from latelink.verdicts import Verdict, first_loss, gap_certificate, is_gap_certificate, verdict
from latelink.writers import decided_by, writers
from tests.helpers import LinkCase
from tests.model import after, legal_logs

LOG = [-1, -2, 1, -3, 2, 3]
LOSING = [-2, -3, 2, -1, -4]
LOSING_TWO = [-2, -3, 2, -1, -6, -5, 6, -7, -4]


def attributes(told):
    return told.whole, told.gap, told.index, told.out_nodes


class VerdictTest(LinkCase):
    def test_examples(self):
        told = verdict(3, LOG)
        self.assertEqual(attributes(told), (False, 0, 3, []))
        self.assert_told(("right", 3, -1), gap_certificate, 3, LOG, 0)

    def test_the_class(self):
        outs = [1, 3]
        told = Verdict(outs, 0, 2)
        outs.append(4)
        self.assertEqual(attributes(told), (False, 0, 2, [1, 3]))
        self.assertEqual(attributes(Verdict([], None, None)), (True, None, None, []))
        self.assertEqual(attributes(Verdict([2], None, None)), (False, None, None, [2]))
        self.assertEqual(attributes(Verdict([], 0, 0)), (False, 0, 0, []))
        for made in (Verdict([], None, None), Verdict([1], 0, 0)):
            self.assertIs(type(made.whole), bool)

    def test_edges(self):
        for size in (0, 1, 60):
            self.assertEqual(attributes(verdict(size, [])), (True, None, None, []))
        self.assertEqual(attributes(verdict(60, [-60])), (False, 59, 0, [60]))
        self.assertEqual(attributes(verdict(1, [-1, 1])), (True, None, None, []))

    def test_every_legal_log(self):
        for size, longest in ((2, 6), (3, 5), (4, 4)):
            for log in legal_logs(size, longest):
                model = after(size, log)
                wrong = [gap for gap, state in enumerate(model.states()) if state != "joined"]
                gap = wrong[0] if wrong else None
                index = decided_by(size, log, gap) if wrong else None
                told = self.told(verdict, size, log)
                self.assertIs(type(told), Verdict)
                self.assertEqual(attributes(told), (replay(size, log).is_whole(), gap, index, sorted(model.out)), log)

    def test_verdicts_share_nothing(self):
        told = verdict(3, [-1])
        told.out_nodes.append(2)
        self.assertEqual(verdict(3, [-1]).out_nodes, [1])

    def test_errors(self):
        for function, more in ((verdict, ()), (first_loss, ()), (gap_certificate, (9,)), (is_gap_certificate, (9, None))):
            self.assert_error(BadSize(61), function, 61, [0], *more)
            self.assert_error(BadSize(-1), function, -1, [], *more)
            self.assert_error(BadOperation(0, 1), function, 3, [-1, 0, -1], *more)
            self.assert_error(BadOperation(-4, 0), function, 3, [-4, 9], *more)
            self.assert_error(Illegal(-1, 1), function, 3, [-1, -1, 0], *more)
            self.assert_error(Illegal(2, 2), function, 3, [-1, 1, 2], *more)


class CertificateTest(LinkCase):
    def test_every_legal_log(self):
        for log in legal_logs(3, 5):
            rights, lefts = writers(3, log)
            states = after(3, log).states()
            for gap in range(4):
                certificate = (states[gap], rights[gap], lefts[gap])
                self.assertEqual(self.told(gap_certificate, 3, log, gap), certificate, (log, gap))
                self.assertIs(is_gap_certificate(3, log, gap, certificate), True)

    def test_edges(self):
        self.assert_told(("joined", -1, -1), gap_certificate, 0, [], 0)
        self.assert_told(("joined", -1, -1), gap_certificate, 60, [], 60)
        self.assert_told(("left", -1, 0), gap_certificate, 60, [-60], 60)
        self.assert_told(("lost", 4, 3), gap_certificate, 4, LOSING, 1)

    def test_values_that_are_no_certificate(self):
        right = gap_certificate(3, LOG, 0)
        self.assert_told(True, is_gap_certificate, 3, LOG, 0, right)
        for value in (None, 3, "right", "", [], list(right), (), right[:2], right + (-1,), ("left", 3, -1),
                      ("right", 2, -1), ("right", 3, 0), ("right", -1, 3), (3, "right", -1), (None, 3, -1),
                      ("right", None, -1), ("right", 3, None), ("right", 3.0, -1), ("right", 3, -1.0),
                      ("right", "3", "-1"), (("right", 3, -1),), {"right": 3}, {}, Links(3), right[0], True,
                      (["right"], 3, -1), ("right", [3], -1), ("RIGHT", 3, -1), (b"right", 3, -1), set(right)):
            self.assert_told(False, is_gap_certificate, 3, LOG, 0, value)

    def test_true_and_false_are_not_integers(self):
        self.assert_told(("right", 0, -1), gap_certificate, 2, [-1], 0)
        self.assert_told(False, is_gap_certificate, 2, [-1], 0, ("right", False, -1))
        self.assert_told(("left", -1, 0), gap_certificate, 2, [-1], 1)
        self.assert_told(False, is_gap_certificate, 2, [-1], 1, ("left", -1, False))
        self.assert_told(("joined", 1, -1), gap_certificate, 2, [-1, 1], 0)
        self.assert_told(True, is_gap_certificate, 2, [-1, 1], 0, ("joined", 1, -1))
        self.assert_told(False, is_gap_certificate, 2, [-1, 1], 0, ("joined", True, -1))
        self.assert_told(False, is_gap_certificate, 2, [-1, 1], 0, (True, 1, -1))

    def test_a_member_that_says_that_it_is_equal(self):
        class Equal:
            def __eq__(self, other):
                return True

        for value in ((Equal(), 3, -1), ("right", Equal(), -1), ("right", 3, Equal()), Equal()):
            self.assertIs(is_gap_certificate(3, LOG, 0, value), False)

    def test_no_gap(self):
        for gap in (-1, 4, 60):
            self.assert_error(BadGap(gap), gap_certificate, 3, LOG, gap)
            for value in (None, ("right", 3, -1)):
                self.assert_error(BadGap(gap), is_gap_certificate, 3, LOG, gap, value)
        self.assert_error(BadGap(1), gap_certificate, 0, [], 1)
        self.assert_error(BadGap(61), gap_certificate, 60, [], 61)


class FirstLossTest(LinkCase):
    def test_ordinary(self):
        self.assert_told((4, 1), first_loss, 4, LOSING)
        self.assert_told((4, 1), first_loss, 4, LOSING + [4, 1, -2])
        self.assert_told((6, 1), first_loss, 60, [-60, 60] + LOSING)
        self.assert_told(None, first_loss, 4, LOSING[:4])
        self.assert_told(None, first_loss, 0, [])
        self.assert_told(None, first_loss, 60, [])

    def test_the_mirrored_log(self):
        self.assert_told((4, 3), first_loss, 4, [-3, -2, 3, -4, -1])

    def test_two_gaps_are_lost_at_once(self):
        self.assert_told((8, 1), first_loss, 7, LOSING_TWO)

    def test_a_lesser_gap_that_is_lost_later(self):
        log = [-7, -8, 7, -6, -9] + LOSING
        self.assertEqual([gap for gap, state in enumerate(after(9, log).states()) if state == "lost"], [1, 6])
        self.assert_told((4, 6), first_loss, 9, log)

    def test_errors_behind_the_answer(self):
        self.assert_error(Illegal(-4, 5), first_loss, 4, LOSING + [-4])
        self.assert_error(BadOperation(0, 6), first_loss, 4, LOSING + [4, 0, 4])

    def test_every_legal_log(self):
        for log in legal_logs(4, 6):
            if len(log) == 6 and sorted(set(map(abs, log))) == [1, 2, 3, 4]:
                expected = None
                for index in range(6):
                    states = after(4, log[:index + 1]).states()
                    if "lost" in states and expected is None:
                        expected = (index, states.index("lost"))
                self.assertEqual(first_loss(4, log), expected, log)


if __name__ == "__main__":
    unittest.main()
