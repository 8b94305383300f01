"""Orders of return: points 2, 3 and 31."""

import random
import unittest
from itertools import permutations
from math import comb, factorial

from latelink.errors import BadCount, BadOrder, BadRemoval, BadSize, TooMany
from latelink.repairs import count_repairs, repairs
from latelink.replay import replay
from latelink.returns import (
    chain_returns, count_once, count_pairs, count_returns, first_unsafe, is_chain_return, is_safe_return,
)
from tests.helpers import LinkCase
from tests.model import Model, after
from tests.test_once import once_only_logs

CHAIN = [1, 1, 2, 5, 17, 75, 407, 2619]
PAIRS = [1, 1, 4, 34, 510]
ONCE = [1, 1, 6, 84, 2180]


def is_safe(size, removal, order):
    return after(size, [-node for node in removal] + list(order)).dump() == Model(size).dump()


def removals(size):
    for many in range(size + 1):
        for removal in permutations(range(1, size + 1), many):
            yield list(removal)


def chain_order(order):
    """Point 31: no node x from 3 on stands behind node 1 and before node x - 1."""
    return not any(order.index(1) < order.index(x) < order.index(x - 1) for x in range(3, len(order) + 1))


class SafeReturnTest(LinkCase):
    def test_ordinary(self):
        self.assert_told(True, is_safe_return, 3, [1, 2, 3], [3, 2, 1])
        self.assert_told(True, is_safe_return, 3, [1, 2, 3], [1, 2, 3])
        self.assert_told(False, is_safe_return, 3, [1, 2, 3], [1, 3, 2])
        self.assert_told(True, is_safe_return, 60, [58, 59, 60], [58, 59, 60])
        self.assert_told(False, is_safe_return, 60, [58, 59, 60], [58, 60, 59])

    def test_the_empty_removal(self):
        for size in (0, 1, 60):
            self.assert_told(True, is_safe_return, size, [], [])
            self.assert_told(1, count_returns, size, [])
            self.assert_told(None, first_unsafe, size, [])

    def test_every_removal_and_order(self):
        for size in (1, 2, 3, 4):
            for removal in removals(size):
                orders = [list(order) for order in permutations(sorted(removal))]
                safe = [order for order in orders if is_safe(size, removal, order)]
                for order in orders:
                    self.assert_told(order in safe, is_safe_return, size, removal, order)
                self.assert_told(len(safe), count_returns, size, removal)
                unsafe = [order for order in orders if order not in safe]
                self.assert_told(unsafe[0] if unsafe else None, first_unsafe, size, removal)
                # The safe orders are the least repairs, and the reverse of the removal is one of them.
                links = replay(size, [-node for node in removal])
                self.assertEqual(repairs(links, most=1000), safe)
                self.assertIn(removal[::-1], safe)

    def test_the_reverse_is_safe(self):
        dice = random.Random(31)
        for size in (1, 8, 30, 60):
            removal = dice.sample(range(1, size + 1), size)
            self.assertIs(self.at_once(is_safe_return, size, removal, removal[::-1]), True)

    def test_bad_removals(self):
        functions = ((is_safe_return, ([9],)), (is_safe_return, ([],)), (count_returns, ()), (first_unsafe, ()))
        for function, more in functions:
            self.assert_error(BadSize(61), function, 61, [0], *more)
            self.assert_error(BadSize(-1), function, -1, [], *more)
            self.assert_error(BadRemoval(0), function, 0, [1], *more)
            self.assert_error(BadRemoval(0), function, 3, [0], *more)
            self.assert_error(BadRemoval(1), function, 3, [1, 4, 1], *more)
            self.assert_error(BadRemoval(1), function, 3, [1, -2], *more)
            self.assert_error(BadRemoval(2), function, 3, [1, 2, 1, 0], *more)
            self.assert_error(BadRemoval(3), function, 3, [1, 2, 3, 3], *more)
            self.assert_error(BadRemoval(9), function, 60, [1, 2, 3, 4, 5, 6, 7, 8, 9, 61], *more)
            self.assert_error(BadRemoval(8), function, 60, [1, 2, 3, 4, 5, 6, 7, 8, 8, 61], *more)

    def test_bad_orders(self):
        for order, index in (([], 0), ([1], 1), ([3, 1], 2), ([1, 1], 1), ([1, 2, 3], 1), ([2], 0), ([1, 3, 5, 2], 3),
                             ([1, 3, 5, 5], 3), ([1, 3, 5, 1, 9], 3), ([0], 0), ([-1, 3, 5], 0), ([1, 3, 61], 2),
                             ([5, 3, 5], 2), ([5, 2], 1), ([5, 4, 3, 1], 1)):
            self.assert_error(BadOrder(index), is_safe_return, 6, [5, 1, 3], order)
        self.assert_error(BadOrder(0), is_safe_return, 6, [], [1])
        self.assert_error(BadOrder(0), is_safe_return, 60, list(range(1, 61)), [])
        self.assert_error(BadOrder(59), is_safe_return, 60, list(range(1, 61)), list(range(60, 1, -1)))


class CountReturnsTest(LinkCase):
    def test_examples(self):
        self.assert_told(5, count_returns, 3, [1, 2, 3])
        self.assert_told([1, 3, 2], first_unsafe, 3, [1, 2, 3])
        self.assert_told(None, first_unsafe, 3, [1, 3, 2])

    def test_removals_of_8(self):
        apart = [4, 8, 12, 16, 20, 24, 28, 32]
        self.assertEqual(self.at_once(count_returns, 60, apart), factorial(8))
        self.assertIsNone(self.at_once(first_unsafe, 60, apart))
        chain = list(range(1, 9))
        self.assertEqual(self.at_once(count_returns, 8, chain), 19487)
        self.assertEqual(self.at_once(count_returns, 60, chain), 19487)
        self.assertEqual(self.at_once(first_unsafe, 60, chain), [1, 2, 3, 4, 5, 6, 8, 7])
        self.assertEqual(self.at_once(count_returns, 60, [v + 50 for v in chain]), 19487)

    def test_removals_of_9(self):
        for removal in (list(range(1, 10)), [4, 8, 12, 16, 20, 24, 28, 32, 36], list(range(60, 0, -1))):
            for function in (count_returns, first_unsafe):
                self.assert_error(TooMany(8), function, 60, removal)
                self.assert_error(BadRemoval(len(removal)), function, 60, removal + [removal[0]])

    def test_the_first_unsafe_order_of_longer_removals(self):
        dice = random.Random(8)
        found = 0
        for _ in range(25):
            removal = dice.sample(range(1, 8), dice.randint(5, 6))
            unsafe = (list(order) for order in permutations(sorted(removal)) if not is_safe(7, removal, order))
            first = next(unsafe, None)
            found += first is not None
            self.assert_told(first, first_unsafe, 7, removal)
        self.assertTrue(found)

    def test_lists_are_new(self):
        self.assert_new(first_unsafe, 3, [1, 2, 3])


class ChainTest(LinkCase):
    """Point 31: the removal of 1, 2, .. up to n."""

    def test_examples(self):
        for count, number in ((0, 1), (3, 5), (7, 2619)):
            self.assert_told(number, chain_returns, count)

    def test_the_numbers(self):
        self.assertEqual([chain_returns(count) for count in range(8)], CHAIN)
        for count in range(8):
            orders = [list(order) for order in permutations(range(1, count + 1))]
            self.assertEqual(sum(map(chain_order, orders)) if count else 1, CHAIN[count])
            for size in (count, count + 1, count + 5, 60):
                self.assert_told(CHAIN[count], count_returns, size, list(range(1, count + 1)))

    def test_the_numbers_of_least_repairs(self):
        for count in (8, 9, 10, 12):
            links = replay(60, [-node for node in range(1, count + 1)])
            self.assertEqual(chain_returns(count), count_repairs(links))

    def test_size_60(self):
        # In another way: each choice of the nodes behind node 1, as runs of consecutive numbers with gaps between
        # them, in as many orders as there are if each run must ascend.
        for count in (1, 2, 9, 30, 60):
            ways = {(0, 0): 1}
            for start in range(count):
                for behind in range(start + 1):
                    many = ways.get((start, behind), 0)
                    for run in range(count - start):
                        key = (start + run + 1, behind + run)
                        ways[key] = ways.get(key, 0) + many * comb(behind + run, run)
            total = sum(ways.get((count, behind), 0) * factorial(count - 1 - behind) for behind in range(count))
            self.assertEqual(self.at_once(chain_returns, count), total)

    def test_bad_counts(self):
        for count in (-1, 61, 1000, -60):
            self.assert_error(BadCount(count), chain_returns, count)

    def test_every_order(self):
        for count in range(7):
            for order in map(list, permutations(range(1, count + 1))):
                right = count == 0 or chain_order(order)
                self.assert_told(right, is_chain_return, order)
                if count < 6:
                    removal = list(range(1, count + 1))
                    self.assertIs(is_safe_return(count, removal, order), right, order)
                    self.assertIs(is_safe_return(count + 2, removal, order), right, order)

    def test_long_orders(self):
        nodes = list(range(1, 61))
        self.assert_told(True, is_chain_return, nodes)
        self.assert_told(True, is_chain_return, nodes[::-1])
        self.assert_told(False, is_chain_return, nodes[:58] + [60, 59])
        self.assert_told(True, is_chain_return, [60, 59] + nodes[:58])
        self.assertIs(self.at_once(is_chain_return, list(range(1, 2001))), True)

    def test_bad_orders(self):
        for order, index in (([0], 0), ([2], 0), ([-1], 0), ([1, 1], 1), ([1, 3], 1), ([2, 3, 1, 2], 3),
                             ([3, 3, 0], 1), ([4, 1, 2], 0), ([1, 3, 2, 5, 5], 4), ([1, 3, 2, 3, 9], 3),
                             ([1, 3, 2, 9, 9], 3)):
            self.assert_error(BadOrder(index), is_chain_return, order)


class SmallSizesTest(LinkCase):
    """Point 31: the numbers of pairs and of once-only logs."""

    def test_the_numbers(self):
        for size in range(5):
            self.assert_told(PAIRS[size], count_pairs, size)
            self.assert_told(ONCE[size], count_once, size)

    def test_a_search(self):
        for size in range(5):
            orders = list(permutations(range(1, size + 1)))
            self.assertEqual(sum(is_safe(size, removal, order) for removal in orders for order in orders), PAIRS[size])
            logs = [log for log in once_only_logs(size) if len(log) == 2 * size]
            self.assertEqual(len(logs), factorial(2 * size) // 2 ** size)
            self.assertEqual(sum(after(size, log).dump() == Model(size).dump() for log in logs), ONCE[size])

    def test_errors(self):
        for function in (count_pairs, count_once):
            for size in (5, 6, 60):
                self.assert_error(TooMany(4), function, size)
            for size in (-1, 61):
                self.assert_error(BadSize(size), function, size)


if __name__ == "__main__":
    unittest.main()
