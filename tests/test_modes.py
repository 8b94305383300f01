"""Modes: points 2, 3, 20, 21 and 57."""

import unittest
from itertools import permutations

from latelink.errors import BadMode, BadOperation, BadSize, Illegal, Refused
from latelink.links import Links
from latelink.modes import (
    CheckedMode, FreeMode, GuardedMode, SavingMode, admits, admitted, first_refusal, mode_named, replay_in,
)
from latelink.replay import play, replay
from tests.helpers import LinkCase
from tests.model import MODES, Model, after, all_dumps, legal_logs, of_dump, reached

CLASSES = (FreeMode, SavingMode, GuardedMode, CheckedMode)
WRONG_NAMES = ("", "Free", "free ", "strict", "CHECKED", "none", "refusal")
LOSING = [-2, -3, 2, -1, -4]


def some_dumps():
    """All standings of the sizes 0 to 2, and many of size 3, also those that no log reaches."""
    for size in (0, 1, 2):
        yield from all_dumps(size)
    yield from list(all_dumps(3))[::5]
    yield from list(reached(4, 6))[::3]


class ClassesTest(LinkCase):
    """Point 20: the classes."""

    def test_base_classes(self):
        self.assertEqual([made.__bases__ for made in CLASSES], [(object,), (FreeMode,), (SavingMode,), (GuardedMode,)])

    def test_names(self):
        self.assertEqual(tuple(made.NAME for made in CLASSES), MODES)
        for made in CLASSES:
            self.assertEqual(vars(made)["NAME"], made().NAME)
            self.assertIn("refusal", vars(made))

    def test_mode_named(self):
        for made, name in zip(CLASSES, MODES):
            self.assertIs(type(mode_named(name)), made)

    def test_no_mode(self):
        for name in WRONG_NAMES:
            self.assert_error(BadMode(name), mode_named, name)


class RefusalTest(LinkCase):
    """Point 20: what the modes refuse."""

    def test_examples(self):
        links = replay_in(3, [-1, -2, 1], mode="guarded")
        self.assert_told([-1, 2, -3], admitted, links)
        self.assert_told([-1, 2], admitted, links, mode="guarded")
        self.assert_told([], admitted, links, mode="checked")
        self.assert_error(Refused(-3, 3, "guarded"), replay_in, 3, [-1, -2, 1, -3], mode="guarded")

    def test_every_operation_on_many_standings(self):
        for dump in some_dumps():
            links, model = Links.read(dump), of_dump(dump)
            refusing = {operation: model.refused_by(operation) for operation in model.legal()}
            for level, (made, name) in enumerate(zip(CLASSES, MODES)):
                for operation, modes in refusing.items():
                    weakest = [mode for mode in MODES[:level + 1] if mode in modes]
                    expected = weakest[0] if weakest else ""
                    self.assertEqual(self.told(made().refusal, links, operation), expected, (dump, operation, name))
                    self.assertIs(admits(links, operation, mode=name), name not in modes, (dump, operation, name))
                    # What a weaker mode refuses is also refused by this one.
                    self.assertTrue(name in modes or expected == "", (dump, operation, name))
                expected = [operation for operation, modes in refusing.items() if name not in modes]
                self.assertEqual(self.told(admitted, links, mode=name), expected, (dump, name))
            self.assertEqual(links.dump(), dump)

    def test_the_refusing_mode(self):
        losing = replay(4, LOSING[:4])
        self.assertEqual([made().refusal(losing, -4) for made in CLASSES], ["", "saving", "saving", "saving"])
        forced = replay(3, [-1, -2, 1])
        self.assertEqual([made().refusal(forced, -3) for made in CLASSES], ["", "", "guarded", "guarded"])
        loose = replay(2, [-1, -2])
        self.assertEqual([made().refusal(loose, 1) for made in CLASSES], ["", "", "", "checked"])
        self.assertEqual([made().refusal(loose, 2) for made in CLASSES], ["", "", "", ""])

    def test_a_gap_that_is_already_lost_does_not_matter_to_the_saving_mode(self):
        links = replay(4, LOSING)
        self.assert_told([1, -2, 3, 4], admitted, links, mode="saving")

    def test_a_holder_that_is_out_may_be_left_alone(self):
        # The unlink of node 3 writes over the right link of node 1; node 2 alone then holds the gap 1.
        for outs, refusing in (("2", ""), ("none", "guarded"), ("1", "guarded"), ("1 2", "")):
            links = Links.read("1 2 4 4 | 0 1 1 3 | " + outs)
            self.assert_told(refusing, GuardedMode().refusal, links, -3)

    def test_the_checked_mode_looks_at_both_neighbours(self):
        for dump, operation in (("1 2 3 4 | 0 1 2 3 | 1", -2), ("1 2 3 4 | 0 1 2 3 | 3", -2),
                                ("1 2 3 4 | 0 1 2 3 | 2", 2), ("1 3 3 4 | 0 1 1 3 | 1 2", 2),
                                ("1 3 3 4 | 0 1 1 3 | 2 3", 2), ("1 2 3 4 | 0 1 1 3 | 2", 2),
                                ("1 3 3 4 | 0 1 2 3 | 2", 2), ("1 3 3 4 | 0 1 2 3 | none", -2),
                                ("1 2 3 4 | 0 1 1 3 | none", -2)):
            self.assert_told("checked", CheckedMode().refusal, Links.read(dump), operation)
        self.assert_told("", CheckedMode().refusal, Links.read("1 3 3 4 | 0 1 1 3 | 2"), 2)
        self.assert_told("", CheckedMode().refusal, Links.read("1 2 3 4 | 0 1 2 3 | none"), -2)

    def test_edges(self):
        for mode in MODES:
            self.assert_told([], admitted, Links(0), mode=mode)
            self.assert_told([-1], admitted, Links(1), mode=mode)
            self.assert_told([1], admitted, replay(1, [-1]), mode=mode)
            self.assert_told([-node for node in range(1, 61)], admitted, Links(60), mode=mode)
        self.assert_told([-node for node in range(1, 61)], admitted, Links(60))
        self.assert_told(True, admits, Links(60), -60)

    def test_errors(self):
        links = replay(3, [-1])
        for operation in (0, 4, -4):
            for made in CLASSES:
                self.assert_error(BadOperation(operation, 0), made().refusal, links, operation)
            for mode in MODES:
                self.assert_error(BadOperation(operation, 0), admits, links, operation, mode=mode)
        for operation in (-1, 2, 3):
            for made in CLASSES:
                self.assert_error(Illegal(operation, 0), made().refusal, links, operation)
            for mode in MODES:
                self.assert_error(Illegal(operation, 0), admits, links, operation, mode=mode)
        self.assertEqual(links, replay(3, [-1]))

    def test_the_mode_is_checked_directly_after_the_first_argument(self):
        for name in WRONG_NAMES:
            self.assert_error(BadMode(name), admits, Links(3), 0, mode=name)
            self.assert_error(BadMode(name), admits, Links(3), 1, mode=name)
            self.assert_error(BadMode(name), admitted, Links(0), mode=name)
            for function in (replay_in, first_refusal):
                self.assert_error(BadMode(name), function, 3, [0], mode=name)
                self.assert_error(BadMode(name), function, 3, [], mode=name)
                self.assert_error(BadSize(61), function, 61, [0], mode=name)
                self.assert_error(BadSize(-1), function, -1, [], mode=name)

    def test_lists_and_standings_are_new(self):
        links = replay(3, [-1])
        self.assert_new(admitted, links)
        self.assert_new(admitted, links, mode="checked")
        replay_in(3, [-1]).apply(1)
        self.assertEqual(replay_in(3, [-1]), links)


class LogTest(LinkCase):
    """Points 3 and 57: logs in a mode."""

    def test_replay_in(self):
        for log in legal_logs(3, 5):
            for mode in MODES:
                model, refused = Model(3), None
                for index, operation in enumerate(log):
                    modes = model.refused_by(operation)
                    if refused is None and mode in modes:
                        refused = Refused(operation, index, modes[0])
                    model.apply(operation)
                if refused is None:
                    self.assertEqual(self.told(replay_in, 3, log, mode=mode).dump(), model.dump(), (log, mode))
                else:
                    self.assert_error(refused, replay_in, 3, log, mode=mode)
                self.assertEqual(self.told(first_refusal, 3, log, mode=mode), refused.index if refused else None)

    def test_the_free_mode_is_meant_without_a_mode(self):
        self.assert_told(replay(4, LOSING), replay_in, 4, LOSING)
        self.assert_told(None, first_refusal, 4, LOSING)
        self.assert_told(True, admits, replay(4, LOSING[:4]), -4)

    def test_errors_of_replay_in(self):
        for mode in MODES:
            self.assert_error(BadOperation(0, 1), replay_in, 3, [-1, 0, -1], mode=mode)
            self.assert_error(Illegal(-1, 1), replay_in, 3, [-1, -1, 0], mode=mode)
            self.assert_error(BadOperation(61, 0), replay_in, 60, [61], mode=mode)
        for more in (0, -1, 9):
            self.assert_error(Refused(1, 2, "checked"), replay_in, 3, [-1, -2, 1, more], mode="checked")
            self.assert_error(Refused(-3, 3, "guarded"), replay_in, 3, [-1, -2, 1, -3, more], mode="guarded")
            self.assert_error(Refused(-4, 4, "saving"), replay_in, 4, LOSING + [more], mode="saving")
        self.assert_error(Illegal(-1, 2), replay_in, 3, [-1, -2, -1], mode="checked")

    def test_first_refusal_by_modes(self):
        log = [-1, -2, 1, -3, 2, 3]
        self.assertEqual([first_refusal(3, log, mode=mode) for mode in MODES], [None, None, 3, 2])
        self.assertEqual([first_refusal(4, LOSING, mode=mode) for mode in MODES], [None, 4, 4, 2])
        for mode in MODES:
            self.assert_told(None, first_refusal, 0, [], mode=mode)
            self.assert_told(None, first_refusal, 60, list(range(-60, 0)), mode=mode)

    def test_first_refusals_of_stricter_modes_come_no_later(self):
        for log in legal_logs(4, 5):
            told = [first_refusal(4, log, mode=mode) for mode in MODES]
            order = [len(log) if index is None else index for index in told]
            self.assertEqual(order, sorted(order, reverse=True), log)

    def test_errors_of_first_refusal_behind_the_answer(self):
        for mode in MODES:
            self.assert_error(Illegal(2, 5), first_refusal, 3, [-1, -2, 1, -3, 2, 2, 0], mode=mode)
            self.assert_error(BadOperation(0, 4), first_refusal, 3, [-1, -2, 1, -3, 0, -3], mode=mode)
            self.assert_error(BadOperation(0, 0), first_refusal, 3, [0], mode=mode)


class KeptTest(LinkCase):
    """Point 21: what the modes keep. It speaks of standings, so each standing that admitted logs reach is looked at."""

    SIZES = ((0, 1), (1, 4), (2, 9), (3, 14), (4, 7), (5, 5))

    def each_standing(self, mode):
        for size, longest in self.SIZES:
            for dump, log in reached(size, longest, mode).items():
                links = replay_in(size, log, mode=mode)
                self.assertEqual(links.dump(), dump)
                yield links, of_dump(dump)

    def each_refused(self, mode):
        for links, model in self.each_standing(mode):
            for operation in model.legal():
                if not admits(links, operation, mode=mode):
                    yield links, operation, of_dump(play(links, [operation]).dump())

    def relinks_make_whole(self, model):
        for order in permutations(sorted(model.out)):
            later = model.copy()
            for node in order:
                later.apply(node)
            if later.dump() == Model(model.size).dump():
                return True
        return False

    def test_the_free_mode(self):
        self.assertEqual(list(self.each_refused("free")), [])
        self.assertTrue(any(model.is_lost() for _, model in self.each_standing("free")))

    def test_the_saving_mode(self):
        for links, model in self.each_standing("saving"):
            self.assertFalse(model.is_lost(), links)
        refused = list(self.each_refused("saving"))
        self.assertTrue(refused)
        for links, operation, later in refused:
            self.assertTrue(later.is_lost(), (links, operation))

    def test_the_guarded_mode(self):
        for links, model in self.each_standing("guarded"):
            self.assertFalse(model.is_lost(), links)
            self.assertTrue(model.sole_holders() <= model.out, links)
            self.assertTrue(model.out or links.is_whole(), links)
        refused = list(self.each_refused("guarded"))
        self.assertTrue(refused)
        for links, operation, later in refused:
            self.assertTrue(later.is_lost() or not later.sole_holders() <= later.out, (str(links), operation))
            self.assertFalse(self.relinks_make_whole(later), (str(links), operation))

    def test_the_checked_mode(self):
        for links, model in self.each_standing("checked"):
            self.assertTrue(links.is_sound(), links)
        refused = list(self.each_refused("checked"))
        self.assertTrue(refused)
        for links, operation, later in refused:
            self.assertFalse(later.is_sound(), (str(links), operation))

    def test_every_admitted_log(self):
        for log in legal_logs(4, 5):
            if first_refusal(4, log, mode="guarded") is None:
                self.assertFalse(after(4, log).is_lost(), log)
                self.assertTrue(after(4, log).sole_holders() <= after(4, log).out, log)
            if first_refusal(4, log, mode="checked") is None:
                self.assertTrue(after(4, log).is_sound(), log)


if __name__ == "__main__":
    unittest.main()
