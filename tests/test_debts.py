"""Debts: points 2, 3, 24, 25 and 26."""

import random
import unittest
from itertools import combinations

from latelink.debts import can_finish, debt_of, due_nodes, is_repairable, repair_cost
from latelink.errors import BadWeights, NotRepairable
from latelink.links import Links
from latelink.ops import block_part, blocks
from latelink.replay import play, replay
from tests.helpers import LinkCase, made
from tests.model import of_dump, signed
from tests.search import SIZES, all_steps, costs_to_whole

LOG = [-1, -2, 1, -3, 2, 3]
LOSING = [-2, -3, 2, -1, -4]


def each_standing(*sizes):
    for size in sizes or SIZES:
        for dump in all_steps(size):
            yield size, dump


def one_lost():
    return made(3, {1: 3}, {2: 0})


def two_lost():
    return made(3, {1: 3, 2: 4}, {2: 0, 3: 1}, 1, 3)


def in_and_due():
    """Node 2 holds the gap 1 alone, and node 4 the gap 4; both are in."""
    return made(5, {1: 3}, {5: 2})


class DueTest(LinkCase):
    """Point 24."""

    def test_examples(self):
        links = replay(3, LOG)
        self.assert_told([1], due_nodes, links)
        self.assert_told(2, debt_of, links)
        self.assert_error(NotRepairable(1), debt_of, replay(4, LOSING))

    def test_the_whole_list(self):
        for size in (0, 1, 2, 60):
            self.assert_told([], due_nodes, Links(size))
            self.assert_told(0, debt_of, Links(size))
            self.assert_told(True, is_repairable, Links(size))
            self.assert_told(True, can_finish, Links(size))
            self.assert_told(0, repair_cost, Links(size), [7] * size)

    def test_nodes_that_are_out(self):
        links = replay(5, [-2, -4, -3])
        self.assert_told([2, 3, 4], due_nodes, links)
        self.assert_told(3, debt_of, links)
        self.assert_told([1], due_nodes, made(2, {}, {}, 1))
        self.assert_told(1, debt_of, made(2, {}, {}, 1))
        self.assert_told(60, debt_of, replay(60, list(range(-60, 0))))

    def test_a_node_that_is_in_and_due_counts_twice(self):
        links = in_and_due()
        self.assert_told([2, 4], due_nodes, links)
        self.assert_told(4, debt_of, links)
        links.apply(-2)
        self.assert_told([2, 4], due_nodes, links)
        self.assert_told(3, debt_of, links)

    def test_a_node_that_holds_both_gaps_alone_is_due_once(self):
        links = made(3, {1: 3}, {3: 1})
        self.assert_told([2], due_nodes, links)
        self.assert_told(2, debt_of, links)

    def test_every_node_in_and_due(self):
        # The odd nodes hold the gaps on both sides alone, the even ones hold none.
        rights = {node: 61 for node in range(2, 60, 2)}
        lefts = {node: 0 for node in range(2, 61, 2)}
        links = made(60, rights, lefts)
        self.assertEqual(self.at_once(due_nodes, links), list(range(1, 60, 2)))
        self.assertEqual(self.at_once(debt_of, links), 60)
        # Each gap but the last is held from its right side alone.
        links = made(60, {node: 61 for node in range(60)}, {})
        self.assertEqual(self.at_once(due_nodes, links), list(range(1, 61)))
        self.assertEqual(self.at_once(debt_of, links), 120)

    def test_lost_gaps_do_not_matter_to_the_due_nodes(self):
        self.assert_told([], due_nodes, one_lost())
        self.assert_told([1, 3], due_nodes, two_lost())
        for size, dump in each_standing():
            model = of_dump(dump)
            self.assert_told(sorted(model.out | model.sole_holders()), due_nodes, Links.read(dump))

    def test_the_least_lost_gap(self):
        for links, gap in ((one_lost(), 1), (two_lost(), 1), (made(60, {58: 60}, {59: 57}), 58),
                           (made(60, {58: 60, 3: 7}, {59: 57, 4: 0}), 3)):
            self.assert_told(False, is_repairable, links)
            self.assert_error(NotRepairable(gap), debt_of, links)
            self.assert_error(NotRepairable(gap), repair_cost, links, [0] * links.size)
            self.assert_told(False, can_finish, links)

    def test_the_debt_is_a_sum_over_nodes(self):
        for size, dump in each_standing():
            model, links = of_dump(dump), Links.read(dump)
            states = model.states()
            self.assert_told("lost" not in states, is_repairable, links)
            if "lost" in states:
                self.assert_error(NotRepairable(states.index("lost")), debt_of, links)
            else:
                self.assert_told(len(model.out) + 2 * len(model.sole_holders() - model.out), debt_of, links)

    def test_lists_are_new(self):
        self.assert_new(due_nodes, replay(3, LOG))
        self.assert_new(due_nodes, Links(3))
        links = in_and_due()
        due_nodes(links).append(5)
        self.assertEqual(links, in_and_due())


class MainFactTest(LinkCase):
    """Point 25: the debt is the least number of operations to the whole list, and none lead there if a gap is lost."""

    def test_a_search(self):
        for size, dump in each_standing():
            links = Links.read(dump)
            least = costs_to_whole(size).get(dump)
            self.assertIs(is_repairable(links), least is not None, dump)
            if least is not None:
                self.assertEqual(debt_of(links), least, dump)

    def test_some_operation_lowers_the_debt_by_one(self):
        for size, dump in each_standing():
            links = Links.read(dump)
            if is_repairable(links):
                debts = [debt_of(later) for later in map(Links.read, [later for _, later in all_steps(size)[dump]])
                         if is_repairable(later)]
                self.assertEqual(debt_of(links) == 0, debt_of(links) - 1 not in debts, dump)


class CanFinishTest(LinkCase):
    """Point 26: relinks alone."""

    def test_ordinary(self):
        self.assert_told(True, can_finish, replay(3, [-1, -2, 1]))
        self.assert_told(False, can_finish, replay(3, [-1, -2, 1, -3]))
        self.assert_told(False, can_finish, replay(4, LOSING))
        self.assert_told(False, can_finish, in_and_due())
        self.assert_told(False, can_finish, play(in_and_due(), [-2]))
        self.assert_told(True, can_finish, play(in_and_due(), [-2, -4]))
        self.assert_told(True, can_finish, replay(60, list(range(-60, 0))))

    def test_a_search(self):
        for size, dump in each_standing():
            finishing = dump in costs_to_whole(size, relinks_only=True)
            self.assert_told(finishing, can_finish, Links.read(dump))


class CostTest(LinkCase):
    """Point 26: weights."""

    def test_ordinary(self):
        links = replay(3, LOG)
        self.assert_told(10, repair_cost, links, [5, 7, 11])
        self.assert_told(0, repair_cost, links, [0, 7, 11])
        self.assert_told(18, repair_cost, replay(3, [-2, -3]), [5, 7, 11])
        self.assert_told(2 * 10 + 2 * 1000, repair_cost, in_and_due(), [1, 10, 100, 1000, 10000])
        self.assert_told(10 + 2 * 1000, repair_cost, play(in_and_due(), [-2]), [1, 10, 100, 1000, 10000])
        self.assert_told(0, repair_cost, Links(0), [])
        self.assert_told(60 * 10 ** 30, repair_cost, replay(60, list(range(-60, 0))), [10 ** 30] * 60)

    def test_a_search(self):
        for size in SIZES:
            for weights in ((1, 1, 1), (0, 0, 0), (0, 1, 5), (3, 0, 2), (4, 9, 0), (1, 100, 10)):
                costs = costs_to_whole(size, weights=weights[:size])
                for dump in list(all_steps(size))[::1 if size < 3 else 5]:
                    if dump in costs:
                        self.assert_told(costs[dump], repair_cost, Links.read(dump), list(weights[:size]))

    def test_bad_weights(self):
        links = replay(3, LOG)
        for weights in ([], [1, 1], [1, 1, 1, 1], [-1, 1, 1], [1, 1, -1], [1, -9, 1], [-1], [1, 1, 1, -1]):
            self.assert_error(BadWeights(len(weights)), repair_cost, links, weights)
            # The weights come before the lost gaps.
            self.assert_error(BadWeights(len(weights)), repair_cost, one_lost(), weights)
            self.assert_error(BadWeights(len(weights)), repair_cost, Links(3), weights)
        self.assert_error(BadWeights(1), repair_cost, Links(0), [0])
        self.assert_error(BadWeights(59), repair_cost, Links(60), [0] * 59)
        self.assert_error(BadWeights(60), repair_cost, Links(60), [0] * 59 + [-1])
        self.assert_error(NotRepairable(1), repair_cost, one_lost(), [0, 0, 0])


class AllowedTest(LinkCase):
    """Point 26: only some nodes may act."""

    def test_a_search(self):
        for size in SIZES:
            for many in range(size + 1):
                for allowed in combinations(range(1, size + 1), many):
                    lengths = costs_to_whole(size, allowed=allowed)
                    for dump in all_steps(size):
                        links = Links.read(dump)
                        possible = is_repairable(links) and set(due_nodes(links)) <= set(allowed)
                        self.assertIs(possible, dump in lengths, (dump, allowed))
                        if possible:
                            self.assertEqual(debt_of(links), lengths[dump], (dump, allowed))


class BlocksTest(LinkCase):
    """Point 26: the blocks of a log from the whole list."""

    def test_random_logs(self):
        dice = random.Random(26)
        lost = 0
        for _ in range(400):
            log = signed(dice.choices([1, 2, 3, 4, 6, 7, 8, 9, 11, 12], k=dice.randint(0, 30)))
            parts = [replay(high - low + 1, block_part(12, log, low, high)) for low, high in blocks(12, log)]
            links = replay(12, log)
            self.assertEqual(is_repairable(links), all(is_repairable(part) for part in parts), log)
            lost += not is_repairable(links)
            if is_repairable(links):
                self.assertEqual(debt_of(links), sum(debt_of(part) for part in parts), log)
        self.assertTrue(0 < lost < 400)


if __name__ == "__main__":
    unittest.main()
