"""Logs on standings: points 2, 3, 6, 7 and 13."""

import unittest

from latelink.errors import BadOperation, BadSize, Illegal
from latelink.links import Links
from latelink.replay import mirrored, play, replay, standings
from tests.helpers import LinkCase
from tests.model import after, all_dumps, legal_logs, of_dump, signed, words

MANY = list(range(-60, 0)) + list(range(60, 0, -1))
# No log leads from the whole list to this standing: the right link of the head misses node 1, which is in.
ODD = "3 3 3 | 0 0 0 | none"


def all_standings(size, log):
    return list(standings(size, log))


class ReplayTest(LinkCase):
    """Point 6."""

    def test_examples(self):
        links = replay(3, [-1, -2, 1])
        self.assertEqual(str(links), "1 2 3 4 | 0 1 0 3 | 2")
        self.assertEqual((list(links.walk()), links.is_sound(), 2 in links), ([1, 2, 3], False, False))

    def test_edges(self):
        self.assert_told(Links(0), replay, 0, [])
        self.assert_told(Links(60), replay, 60, [])
        self.assertEqual(self.told(replay, 60, MANY).dump(), after(60, MANY).dump())

    def test_every_legal_log(self):
        for log in legal_logs(3, 6):
            self.assertEqual(replay(3, log).dump(), after(3, log).dump(), log)

    def test_errors(self):
        for function in (replay, all_standings):
            for size in (-1, 61):
                self.assert_error(BadSize(size), function, size, [0])
            self.assert_error(BadOperation(0, 2), function, 3, [-1, -2, 0, 5])
            self.assert_error(BadOperation(4, 0), function, 3, [4])
            self.assert_error(BadOperation(-4, 1), function, 3, [-1, -4])
            self.assert_error(BadOperation(1, 0), function, 0, [1])
            self.assert_error(BadOperation(-61, 1), function, 60, [-60, -61])
            self.assert_error(Illegal(1, 0), function, 3, [1, 0])
            self.assert_error(Illegal(-2, 2), function, 3, [-2, -1, -2, 9])
            self.assert_error(BadOperation(9, 1), function, 3, [-1, 9, -1])


class PlayTest(LinkCase):
    """Points 2, 3 and 7."""

    def test_from_a_given_standing(self):
        links = replay(3, [-1, -2])
        self.assert_told(replay(3, [-1, -2, 1, 2]), play, links, [1, 2])
        self.assertEqual(links, replay(3, [-1, -2]))

    def test_the_empty_log_gives_a_copy(self):
        links = Links(3)
        copy = play(links, [])
        self.assertEqual(copy, links)
        copy.apply(-1)
        self.assertEqual(links, Links(3))

    def test_a_standing_that_no_log_reaches(self):
        self.assertEqual(self.told(play, Links.read(ODD), [-2]).dump(), "3 3 3 | 0 0 0 | 2")
        self.assertEqual(self.told(play, Links.read(ODD), [-1, 1]).dump(), "1 3 3 | 0 0 1 | none")

    def test_every_standing(self):
        for dump in all_dumps(2):
            for nodes in ([1], [2], [1, 2], [2, 1, 2], [1, 1]):
                model = of_dump(dump)
                log = signed(nodes, out=model.out)
                for operation in log:
                    model.apply(operation)
                self.assertEqual(self.told(play, Links.read(dump), log).dump(), model.dump(), (dump, log))

    def test_errors(self):
        links = replay(3, [-1])
        self.assert_error(BadOperation(0, 1), play, links, [1, 0, 7])
        self.assert_error(BadOperation(4, 0), play, links, [4, -1])
        self.assert_error(Illegal(-1, 0), play, links, [-1, 0])
        self.assert_error(Illegal(1, 2), play, links, [1, -2, 1])
        self.assertEqual(links, replay(3, [-1]))


class StandingsTest(LinkCase):
    """The dumps along a log."""

    def test_ordinary(self):
        self.assertEqual(self.told(all_standings, 2, [-1, 1]),
                         ["1 2 3 | 0 1 2 | none", "2 2 3 | 0 0 2 | 1", "1 2 3 | 0 1 2 | none"])

    def test_the_empty_log(self):
        self.assertEqual(all_standings(0, []), ["1 | 0 | none"])
        self.assertEqual(all_standings(60, []), [words(range(1, 62)) + " | " + words(range(61)) + " | none"])

    def test_every_legal_log(self):
        for log in legal_logs(3, 4):
            expected = [after(3, log[:length]).dump() for length in range(len(log) + 1)]
            self.assertEqual(all_standings(3, log), expected, log)

    def test_nothing_is_checked_before_the_first_member(self):
        standings(99, [])
        members = standings(3, [-1, -1])
        with self.assertRaises(Illegal) as caught:
            next(members)
        self.assertEqual(caught.exception.index, 1)

    def test_an_error_is_raised_before_the_first_member(self):
        told = []
        with self.assertRaises(BadOperation):
            for dump in standings(3, [-1, -2, 0]):
                told.append(dump)
        self.assertEqual(told, [])


class MirrorTest(LinkCase):
    """Point 13, for standings."""

    def test_ordinary(self):
        links = replay(3, [-1])
        self.assertEqual(self.told(mirrored, links).dump(), "1 2 4 4 | 0 1 2 2 | 3")
        self.assertEqual(mirrored(replay(3, [-1, -2, 1])).dump(), "1 4 3 4 | 0 1 2 3 | 2")
        self.assertEqual(mirrored(Links(0)), Links(0))
        self.assertEqual(mirrored(Links(60)), Links(60))
        self.assertEqual(mirrored(replay(60, [-1, -2])), replay(60, [-60, -59]))

    def test_every_standing(self):
        for size in (0, 1, 2):
            for dump in all_dumps(size):
                model = of_dump(dump)
                turned = of_dump(dump)
                turned.right = {v: size + 1 - model.left[size + 1 - v] for v in range(size + 1)}
                turned.left = {v: size + 1 - model.right[size + 1 - v] for v in range(1, size + 2)}
                turned.out = {size + 1 - v for v in model.out}
                links = Links.read(dump)
                self.assertEqual(self.told(mirrored, links).dump(), turned.dump(), dump)
                self.assertEqual(mirrored(mirrored(links)), links)

    def test_the_gap_v_becomes_the_gap_n_minus_v(self):
        names = {"joined": "joined", "left": "right", "right": "left", "lost": "lost"}
        for dump in all_dumps(2):
            states = of_dump(mirrored(Links.read(dump)).dump()).states()
            self.assertEqual(states, [names[state] for state in reversed(of_dump(dump).states())])


class NewTest(LinkCase):
    """Point 2: what is returned shares nothing."""

    def test_standings_are_new(self):
        links = replay(3, [-2])
        before = links.dump()
        for other in (replay(3, [-2]), play(links, []), mirrored(links)):
            self.assertIsNot(other, links)
            other.apply(-1)
            self.assertEqual(links.dump(), before)
        self.assertEqual(replay(3, [-2]).dump(), before)

    def test_a_log_that_was_passed_in_may_change_later(self):
        log = [-1, -2]
        links = replay(3, log)
        log.append(1)
        self.assertEqual(links, replay(3, [-1, -2]))


if __name__ == "__main__":
    unittest.main()
