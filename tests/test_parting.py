"""Where modes differ: points 2, 3 and 22."""

import unittest
from itertools import product

from latelink.errors import BadMode, BadSize
from latelink.modes import admits, replay_in
from latelink.parting import alike, least_parting
from latelink.replay import play
from tests.helpers import LinkCase
from tests.model import MODES, Model, of_dump, reached

STRICT = ("checked", [-1, -2, 1], 2)
MIDDLE = ("guarded", [-1, -2, 1, -3], 3)
LOOSE = ("saving", [-2, -3, 2, -1, -4], 4)
PAIRS = list(product(MODES, repeat=2))


def promised(size, mode, other):
    """The least parting log as the document lists it."""
    for stricter, log, least in (STRICT, MIDDLE, LOOSE):
        if mode != other and stricter in (mode, other):
            return log if size >= least else None
    return None


def searched(size, mode, other):
    """The least parting log, by a search over the standings that logs reach which both modes admit."""
    level = {Model(size).dump(): []}
    seen = set(level)
    while level:
        parting, further = [], {}
        for dump, log in level.items():
            for operation in of_dump(dump).legal():
                refusing = of_dump(dump).refused_by(operation)
                later = of_dump(dump)
                later.apply(operation)
                if (mode in refusing) != (other in refusing):
                    parting.append(log + [operation])
                elif mode not in refusing and later.dump() not in seen:
                    seen.add(later.dump())
                    further[later.dump()] = log + [operation]
        if parting:
            return min(parting, key=lambda log: [abs(operation) for operation in log])
        level = further
    return None


class PartingTest(LinkCase):
    def test_examples(self):
        self.assert_told([-2, -3, 2, -1, -4], least_parting, 7, "free", "saving")
        self.assert_told(None, least_parting, 3, "free", "saving")

    def test_every_pair_on_every_size(self):
        for size in (0, 1, 2, 3, 4, 5, 6, 59, 60):
            for mode, other in PAIRS:
                log = promised(size, mode, other)
                self.assert_told(log, least_parting, size, mode, other)
                self.assert_told(log is None, alike, size, mode, other)

    def test_the_first_size_of_each_pair(self):
        for (stricter, log, least), weaker in ((STRICT, MODES[:3]), (MIDDLE, MODES[:2]), (LOOSE, MODES[:1])):
            for mode in weaker:
                for pair in ((mode, stricter), (stricter, mode)):
                    self.assert_told(None, least_parting, least - 1, *pair)
                    self.assert_told(log, least_parting, least, *pair)

    def test_a_mode_with_itself(self):
        for size in (0, 2, 3, 4, 60):
            for mode in MODES:
                self.assert_told(None, least_parting, size, mode, mode)
                self.assert_told(True, alike, size, mode, mode)

    def test_a_search(self):
        for size in range(6):
            for mode, other in PAIRS:
                if size < 4 or mode != other:
                    self.assertEqual(least_parting(size, mode, other), searched(size, mode, other), (size, mode, other))

    def test_the_last_operation_parts_the_modes(self):
        for mode, other in PAIRS:
            log = least_parting(60, mode, other)
            if mode != other:
                links = replay_in(60, log[:-1], mode=mode)
                self.assertEqual(links, replay_in(60, log[:-1], mode=other))
                self.assertNotEqual(admits(links, log[-1], mode=mode), admits(links, log[-1], mode=other))

    def test_no_gap_can_be_lost_on_three_nodes(self):
        for size in (0, 1, 2, 3):
            for dump in reached(size, 30):
                self.assertFalse(of_dump(dump).is_lost(), dump)
        self.assertTrue(of_dump(play(replay_in(4, LOOSE[1][:-1]), LOOSE[1][-1:]).dump()).is_lost())

    def test_errors(self):
        for function in (least_parting, alike):
            for size in (-1, 61):
                self.assert_error(BadSize(size), function, size, "odd", "even")
                self.assert_error(BadSize(size), function, size, "free", "free")
            for name in ("", "Free", "odd", "free "):
                for size in (0, 1, 60):
                    self.assert_error(BadMode(name), function, size, name, "even")
                    self.assert_error(BadMode(name), function, size, name, "free")
                    for mode in MODES:
                        self.assert_error(BadMode(name), function, size, mode, name)

    def test_lists_are_new(self):
        for mode, other in PAIRS:
            if mode != other:
                self.assert_new(least_parting, 60, mode, other)


if __name__ == "__main__":
    unittest.main()
