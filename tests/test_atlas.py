"""The atlas: points 2, 3 and 23."""

import unittest

from latelink.atlas import Atlas
from latelink.errors import BadMode, BadSize, TooMany, Unknown
from latelink.links import Links
from latelink.replay import replay
from tests.helpers import LinkCase
from tests.model import MODES, Model, all_dumps, of_dump, reached

COUNTS = {
    "free": [1, 2, 9, 106],
    "saving": [1, 2, 9, 106],
    "guarded": [1, 2, 9, 62, 635],
    "checked": [1, 2, 5, 14, 42, 132, 429],
}


def steps_between(dumps, mode):
    """For each standing, the least number of admitted operations to each standing that they lead to."""
    onward = {}
    for dump in dumps:
        onward[dump] = []
        for operation in of_dump(dump).legal():
            later = of_dump(dump)
            if mode not in later.refused_by(operation):
                later.apply(operation)
                onward[dump].append(later.dump())
    told = {}
    for dump in dumps:
        steps, level = {dump: 0}, [dump]
        for many in range(1, len(dumps)):
            level = sorted({there for here in level for there in onward[here]} - set(steps))
            steps.update(dict.fromkeys(level, many))
        told[dump] = steps
    return told


class CountTest(LinkCase):
    def test_the_numbers_of_standings(self):
        for mode, counts in COUNTS.items():
            for size, count in enumerate(counts):
                atlas = Atlas(size, mode=mode)
                self.assertEqual((atlas.size, atlas.count), (size, count), mode)
        self.assertEqual([Atlas(size).count for size in range(4)], COUNTS["free"])

    def test_too_many(self):
        for mode, counts in COUNTS.items():
            limit = len(counts) - 1
            for size in (limit + 1, limit + 2, 60):
                self.assert_error(TooMany(limit), Atlas, size, mode=mode)
        self.assert_error(TooMany(3), Atlas, 4)

    def test_errors(self):
        for size in (-1, 61):
            for mode in MODES + ("odd",):
                self.assert_error(BadSize(size), Atlas, size, mode=mode)
            self.assert_error(BadSize(size), Atlas, size)
        for name in ("", "odd", "Free", "checked "):
            for size in (0, 3, 4, 60):
                self.assert_error(BadMode(name), Atlas, size, mode=name)


class QuestionTest(LinkCase):
    def test_example(self):
        atlas = Atlas(2)
        links = replay(2, [-1, -2, 1])
        self.assertEqual(atlas.count, 9)
        self.assert_told([-1, -2, 1], atlas.log_to, links)
        self.assert_told(1, atlas.steps, links, Links(2))

    def test_knows(self):
        for mode in MODES:
            for size in (0, 1, 2, 3):
                atlas = Atlas(size, mode=mode)
                known = reached(size, 20, mode)
                for dump in list(all_dumps(size))[::1 if size < 3 else 7] + list(known):
                    self.assertIs(self.told(atlas.knows, Links.read(dump)), dump in known, (mode, dump))

    def test_standings_of_another_size_are_unknown(self):
        atlas = Atlas(2)
        for links in (Links(0), Links(1), Links(3), Links(60)):
            self.assert_told(False, atlas.knows, links)
            self.assert_error(Unknown(links.dump()), atlas.log_to, links)
            self.assert_error(Unknown(links.dump()), atlas.steps, links, Links(2))

    def test_log_to(self):
        # The logs of reached() are the least ones: they come in the order in which logs are compared.
        for mode, size in (("free", 2), ("free", 3), ("saving", 3), ("guarded", 3), ("checked", 4)):
            atlas = Atlas(size, mode=mode)
            for dump, log in reached(size, 30, mode).items():
                self.assert_told(log, atlas.log_to, Links.read(dump))
                self.assertEqual(replay(size, log).dump(), dump)

    def test_the_least_log_of_all_logs(self):
        atlas = Atlas(3)
        least = {}
        logs = [[]]
        for _ in range(6):
            for log in logs:
                least.setdefault(replay(3, log).dump(), log)
            logs = [log + [operation] for log in logs for operation in of_dump(replay(3, log).dump()).legal()]
        for dump, log in least.items():
            self.assert_told(log, atlas.log_to, Links.read(dump))

    def test_steps(self):
        for mode, size in (("free", 1), ("free", 2), ("saving", 3), ("guarded", 3), ("checked", 3)):
            atlas = Atlas(size, mode=mode)
            dumps = list(reached(size, 30, mode))
            told = steps_between(dumps, mode)
            for here in dumps[::1 if size < 3 else 4]:
                for there in dumps:
                    expected = told[here].get(there)
                    self.assertEqual(atlas.steps(Links.read(here), Links.read(there)), expected, (mode, here, there))

    def test_steps_on_the_greatest_sizes(self):
        for mode, size in (("guarded", 4), ("checked", 6)):
            atlas = Atlas(size, mode=mode)
            for dump, log in list(reached(size, 30, mode).items())[::40]:
                links = Links.read(dump)
                self.assert_told(len(log), atlas.steps, Links(size), links)
                self.assert_told(log, atlas.log_to, links)
                self.assertIsInstance(atlas.steps(links, Links(size)), int)

    def test_edges(self):
        for mode in MODES:
            atlas = Atlas(0, mode=mode)
            self.assert_told(True, atlas.knows, Links(0))
            self.assert_told([], atlas.log_to, Links(0))
            self.assert_told(0, atlas.steps, Links(0), Links(0))
            atlas = Atlas(1, mode=mode)
            self.assert_told([-1], atlas.log_to, replay(1, [-1]))
            self.assert_told(1, atlas.steps, replay(1, [-1]), Links(1))

    def test_modes_know_other_standings(self):
        guarded, checked = Atlas(3, mode="guarded"), Atlas(3, mode="checked")
        links = replay(3, [-1, -2, 1])
        self.assertEqual((guarded.knows(links), checked.knows(links)), (True, False))
        links = replay(3, [-1, -2, 1, -3])
        self.assertEqual((Atlas(3, mode="saving").knows(links), guarded.knows(links)), (True, False))

    def test_unknown(self):
        atlas = Atlas(3, mode="checked")
        first, second = replay(3, [-1, -2, 1]), replay(3, [-1, -2, 1, -3])
        self.assert_error(Unknown(first.dump()), atlas.log_to, first)
        self.assert_error(Unknown(first.dump()), atlas.steps, first, second)
        self.assert_error(Unknown(second.dump()), atlas.steps, second, first)
        self.assert_error(Unknown(second.dump()), atlas.steps, Links(3), second)
        self.assert_error(Unknown(first.dump()), atlas.steps, first, Links(3))
        self.assert_error(Unknown(first.dump()), atlas.steps, first, first)

    def test_questions_change_nothing(self):
        atlas = Atlas(3, mode="guarded")
        links = replay(3, [-1, -2, 1])
        self.assert_new(atlas.log_to, links)
        self.assert_new(atlas.log_to, Links(3))
        for _ in range(2):
            self.assert_told(3, atlas.steps, Links(3), links)
            self.assert_told([-1, -2, 1], atlas.log_to, links)
            self.assertEqual(atlas.count, 62)
        links.apply(-3)
        self.assertFalse(atlas.knows(links))
        self.assertTrue(atlas.knows(replay(3, [-1, -2, 1])))

    def test_an_atlas_shares_nothing_with_another(self):
        one, two = Atlas(2), Atlas(2)
        one.log_to(replay(2, [-1])).append(9)
        self.assertEqual(two.log_to(replay(2, [-1])), [-1])
        self.assertEqual(Links(2).dump(), Model(2).dump())


if __name__ == "__main__":
    unittest.main()
