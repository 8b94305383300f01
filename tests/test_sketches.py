"""Logs with unknown operations: points 2, 3 and 48."""

import random
import unittest
from itertools import product

from latelink.errors import BadFact, BadMode, BadOperation, BadSize, NoFit, TooMany
from latelink.facts import facts_of
from latelink.gaps import gap_states
from latelink.replay import replay
from latelink.sketches import readings, settled_gaps
from tests.helpers import LinkCase
from tests.model import MODES, Model, after, signed
from tests.test_facts import all_facts, is_true_by_definition

FUNCTIONS = (readings, settled_gaps)


def is_admitted(size, log, mode):
    """Whether the log is legal and all of its operations are admitted from the whole list."""
    model = Model(size)
    for operation in log:
        if operation not in model.legal() or mode in model.refused_by(operation):
            return False
        model.apply(operation)
    return True


def readings_by_definition(size, sketch, facts, mode):
    operations = [sign * node for node in range(1, size + 1) for sign in (-1, 1)]
    found = []
    for log in product(*[operations if operation == 0 else [operation] for operation in sketch]):
        if is_admitted(size, log, mode):
            if all(is_true_by_definition(after(size, log), fact) for fact in facts):
                found.append(list(log))
    return sorted(found, key=lambda log: [abs(operation) for operation in log])


def settled_by_definition(size, logs):
    rows = [after(size, log).states() for log in logs]
    return [states[0] if states.count(states[0]) == len(states) else "open" for states in zip(*rows)]


def some_sketches(size, length, many, zeros):
    """Random legal logs, of which some operations are unknown, with some facts that are true at their end."""
    dice = random.Random(repr((size, length, zeros)))
    for _ in range(many):
        log = signed([dice.randint(1, size) for _ in range(length)])
        unknown = dice.sample(range(length), dice.randint(0, zeros))
        sketch = [0 if index in unknown else operation for index, operation in enumerate(log)]
        true = [fact for fact in all_facts(size) if is_true_by_definition(after(size, log), fact)]
        yield sketch, dice.choices(true, k=dice.randint(0, 3))


class SearchTest(LinkCase):
    def assert_sketch(self, size, sketch, facts):
        """The number of readings in the free mode, and in each stricter one."""
        counts = []
        for mode in MODES:
            logs = readings_by_definition(size, sketch, facts, mode)
            self.assert_told(logs, readings, size, sketch, facts, mode=mode)
            if logs:
                self.assert_told(settled_by_definition(size, logs), settled_gaps, size, sketch, facts, mode=mode)
            else:
                self.assert_error(NoFit(size), settled_gaps, size, sketch, facts, mode=mode)
            counts.append(len(logs))
        return counts

    def test_all_short_sketches(self):
        for size, longest in ((0, 3), (1, 4), (2, 3)):
            for length in range(longest + 1):
                for sketch in product(range(-size, size + 1), repeat=length):
                    self.assert_sketch(size, list(sketch), [])

    def test_with_each_fact(self):
        for sketch in ([0, 0], [-2, 0], [0, -1, 0], [-1, 0, 0], [0, 0, 1]):
            for fact in all_facts(2):
                self.assert_sketch(2, sketch, [fact])

    def test_longer_sketches(self):
        told = set()
        for size, length, many, zeros in ((3, 4, 40, 2), (3, 7, 25, 2), (3, 4, 8, 3), (4, 6, 30, 2), (5, 8, 10, 1)):
            for sketch, facts in some_sketches(size, length, many, zeros):
                counts = self.assert_sketch(size, sketch, facts)
                self.assertGreater(counts[0], 0)
                self.assertEqual(counts, sorted(counts, reverse=True))
                told.add(tuple(count > 0 for count in counts))
        self.assertGreater(len(told), 3)

    def test_a_gap_that_can_only_be_lost(self):
        # The saving mode does not admit the only log that loses the gap 1.
        sketch = [-2, -3, 2, -1, 0]
        self.assertIn([-2, -3, 2, -1, -4], readings(4, sketch, []))
        self.assertEqual(self.assert_sketch(4, sketch, [("right", 1, 3), ("left", 2, 0)])[1:], [0, 0, 0])


class OrdinaryTest(LinkCase):
    def test_examples(self):
        facts = [("out", 1), ("out", 2)]
        self.assert_told([[-1, -2], [-2, -1]], readings, 2, [0, 0], facts)
        self.assert_told(["right", "open", "left"], settled_gaps, 2, [0, 0], facts)

    def test_without_zeros(self):
        for log in ([], [-1], [-1, -2, 1, -3, 2, 3]):
            self.assert_told([log], readings, 3, log, [])
            self.assert_told(gap_states(replay(3, log)), settled_gaps, 3, log, [])
        self.assert_told([], readings, 3, [1], [])
        self.assert_told([], readings, 3, [-1, -1], [])
        self.assert_told([], readings, 3, [-1], [("in", 1)])
        self.assert_told([], readings, 3, [-1, -2, 1, -3], [], mode="guarded")
        self.assert_error(NoFit(3), settled_gaps, 3, [1], [])

    def test_zeros_only(self):
        self.assert_told([[-1], [-2], [-3]], readings, 3, [0], [])
        self.assert_told([[-1, 1], [-2, 2]], readings, 2, [0, 0], [("in", 1), ("in", 2)])
        self.assert_told(["joined"] * 3, settled_gaps, 2, [0, 0], [("in", 1), ("in", 2)])
        self.assert_told([[-1, 1, -1, 1]], readings, 1, [0] * 4, [])

    def test_size_0(self):
        for mode in MODES:
            self.assert_told([[]], readings, 0, [], [], mode=mode)
            self.assert_told(["joined"], settled_gaps, 0, [], [], mode=mode)
            for zeros in (1, 2, 13, 5000):
                self.assert_told([], readings, 0, [0] * zeros, [], mode=mode)
                self.assert_error(NoFit(0), settled_gaps, 0, [0] * zeros, [], mode=mode)
        self.assert_told([[]], readings, 0, [], [("right", 0, 1)])

    def test_a_sketch_that_has_no_reading(self):
        for sketch, facts in (([1, 0], []), ([0, 2, 2], []), ([0], [("out", 1), ("out", 2)]), ([0, 0], [("right", 0, 4)]),
                              ([0], [("in", 1), ("out", 1)])):
            self.assert_told([], readings, 3, sketch, facts)
            self.assert_error(NoFit(3), settled_gaps, 3, sketch, facts)

    def test_readings_come_in_the_order_of_their_nodes(self):
        logs = readings(3, [0, -1, 0], [])
        self.assertEqual(logs, [[-2, -1, 1], [-2, -1, 2], [-2, -1, -3], [-3, -1, 1], [-3, -1, -2], [-3, -1, 3]])
        logs = readings(4, [0] * 4, [])
        self.assertEqual([[abs(operation) for operation in log] for log in logs],
                         [list(nodes) for nodes in product(range(1, 5), repeat=4)])

    def test_the_free_mode_is_meant_if_none_is_named(self):
        for sketch, facts in some_sketches(3, 5, 10, 2):
            for function in FUNCTIONS:
                self.assertEqual(function(3, sketch, facts), function(3, sketch, facts, mode="free"))

    def test_lists_are_new(self):
        self.assert_new(readings, 2, [0, 0], [])
        self.assert_new(readings, 2, [-1], [])
        self.assert_new(settled_gaps, 2, [0, 0], [])
        sketch = [-1, 0, 0]
        logs = readings(2, sketch, [])
        logs[0].append(7)
        logs[1][0] = 9
        self.assertEqual(readings(2, sketch, [])[0], [-1, 1, -1])
        self.assertEqual(sketch, [-1, 0, 0])
        log = [-1]
        readings(1, log, [])[0].append(5)
        self.assertEqual(log, [-1])


class ManyTest(LinkCase):
    def test_the_greatest_numbers(self):
        for size, zeros in ((1, 300), (2, 12), (4, 6), (8, 4), (16, 3), (60, 2), (15, 3), (5, 5), (3, 7)):
            self.assertLessEqual(size ** zeros, 4096)
            logs = self.at_once(readings, size, [0] * zeros, [])
            self.assertEqual(len(logs), size ** zeros)
            self.assertEqual(len(self.at_once(settled_gaps, size, [0] * zeros, [])), size + 1)
        for size, zeros in ((2, 13), (4, 7), (8, 5), (16, 4), (17, 3), (60, 3), (6, 5), (3, 8), (60, 2000)):
            self.assertGreater(size ** zeros, 4096)
            for function in FUNCTIONS:
                self.assert_error(TooMany(4096), function, size, [0] * zeros, [])
                self.assert_error(TooMany(4096), function, size, [1] + [0] * zeros, [("in", 1), ("out", 1)])

    def test_size_60(self):
        nodes = list(range(1, 61))
        down = [-node for node in nodes]
        end = replay(60, down)
        facts = facts_of(end, nodes)
        sketch = down[:10] + [0] + down[11:40] + [0] + down[41:]
        for mode in MODES:
            self.assertEqual(self.at_once(readings, 60, sketch, facts, mode=mode), [down])
            self.assertEqual(self.at_once(settled_gaps, 60, sketch, facts, mode=mode), gap_states(end))
        for log in self.at_once(readings, 60, sketch, [("out", 11)])[::20]:
            self.assertTrue(is_admitted(60, log, "free"))
        around = [0, 0] + [-30, 30] * 20
        for mode in MODES:
            logs = self.at_once(readings, 60, around, [], mode=mode)
            self.assertGreater(len(logs), 3000)
            self.assertEqual(self.at_once(settled_gaps, 60, around, [], mode=mode)[0], "open")

    def test_many_readings_with_a_long_rest(self):
        logs = self.at_once(readings, 2, [0] * 12 + [-1, 1] * 200, [])
        self.assertEqual(len(logs), 2048)
        self.assertEqual(self.at_once(settled_gaps, 2, [0] * 12 + [-1, 1] * 200, [("in", 2)])[0], "joined")


class ErrorsTest(LinkCase):
    def assert_both(self, error, *values, **named):
        for function in FUNCTIONS:
            self.assert_error(error, function, *values, **named)

    def test_the_order_of_errors(self):
        many = [0] * 13
        for size in (-1, 61):
            self.assert_both(BadSize(size), size, [99], [("odd",)], mode="odd")
        self.assert_both(BadMode("odd"), 3, [4], [("odd",)], mode="odd")
        self.assert_both(BadMode("odd"), 0, many, [], mode="odd")
        self.assert_both(BadOperation(4, 13), 3, many + [4, -4], [("odd",)])
        self.assert_both(BadOperation(-1, 0), 0, [-1], [("odd",)])
        self.assert_both(BadFact(1), 3, many, [("in", 1), ("odd",)])
        self.assert_both(TooMany(4096), 3, many, [("in", 1)])

    def test_operations(self):
        for operation in (4, -4, 61, 10 ** 20):
            self.assert_both(BadOperation(operation, 0), 3, [operation], [])
            # The sketch is not legal before this operation, and it has no reading.
            self.assert_both(BadOperation(operation, 3), 3, [0, 1, 1, operation], [("in", 1), ("out", 1)])

    def test_facts(self):
        self.assert_both(BadFact(0), 3, [1, 1], [("in", 4)])
        self.assert_both(BadFact(2), 3, [0], [("in", 1), ("out", 1), ("left", 5, 1)])

    def test_every_mode(self):
        for mode in MODES:
            self.assert_both(BadFact(0), 3, [0], [("out", 0)], mode=mode)
            self.assert_both(TooMany(4096), 60, [0, 0, 0], [], mode=mode)


if __name__ == "__main__":
    unittest.main()
