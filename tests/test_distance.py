"""Distances and plans in the checked mode: points 2, 3, 37 and 38."""

import random
import unittest
from itertools import product
from math import factorial

from latelink.distance import (
    count_plans, distance, far_pair, first_plan, is_plan, kept, reaches_in, widest,
)
from latelink.errors import BadSize, SizeMismatch, TooMany
from latelink.forest import Forest
from latelink.links import Links
from tests.helpers import LinkCase
from tests.model import of_dump
from tests.trees import checked_dumps, checked_steps, distances_from, shortest_plans

SIZES = (0, 1, 2, 3)


def forest_of(dump):
    return Forest.of(Links.read(dump))


def pairs(*sizes):
    """All pairs of checked standings of each size, by their dumps."""
    for size in sizes:
        for dump, goal in product(checked_dumps(size), repeat=2):
            yield size, dump, goal


def some_pairs(size, many):
    dice = random.Random(size)
    dumps = list(checked_dumps(size))
    for _ in range(many):
        yield size, dice.choice(dumps), dice.choice(dumps)


def kept_by_definition(one, two):
    """Point 37, by asking again and again what is between the two links of a node."""
    def is_kept(x):
        links = (one.left[x], one.right[x])
        if x not in one.out or x not in two.out or links != (two.left[x], two.right[x]):
            return False
        return all(is_kept(other) for other in range(links[0] + 1, links[1]) if other != x)

    return [x for x in range(1, one.size + 1) if is_kept(x)]


def plan_by_definition(a, b):
    """Point 38, on the standings as they are at each moment."""
    stay = kept(a, b)
    relinks = [node for node in range(1, a.size + 1) if node in a and node not in stay]
    unlinks = [node for node in range(1, a.size + 1) if node in b and node not in stay]
    plan, here = [], a
    while relinks:
        node = min(node for node in relinks if node in here.tops())
        here = here.relinked(node)
        relinks.remove(node)
        plan.append(node)
    while unlinks:
        node = min(node for node in unlinks if not set(b.below(node)) & set(unlinks))
        here = here.unlinked(node)
        unlinks.remove(node)
        plan.append(-node)
    return plan, here


def random_pairs(size, many):
    dice = random.Random(many)
    for _ in range(many):
        common = dice.sample(range(1, size + 1), dice.randint(0, size // 2))
        rest = [node for node in range(1, size + 1) if node not in common]
        removals = [common + dice.sample(rest, dice.randint(0, len(rest))) for _ in range(2)]
        yield Forest.after(size, removals[0]), Forest.after(size, removals[1])


class DistanceTest(LinkCase):
    """Point 37."""

    def test_examples(self):
        a, b = Forest.after(3, [1, 2, 3]), Forest.after(3, [3, 2, 1])
        self.assert_told(6, distance, a, b)
        self.assert_told([3, 2, 1, -3, -2, -1], first_plan, a, b)
        a, b = Forest.after(5, [1, 2, 4]), Forest.after(5, [1, 2, 5])
        self.assert_told([1, 2], kept, a, b)
        self.assert_told(2, distance, a, b)

    def test_a_search(self):
        for size, dump, goal in [*pairs(0, 1, 2, 3, 4), *some_pairs(5, 600), *some_pairs(6, 200)]:
            a, b = forest_of(dump), forest_of(goal)
            stay = kept_by_definition(of_dump(dump), of_dump(goal))
            self.assert_told(stay, kept, a, b)
            self.assert_told(distances_from(size, goal)[dump], distance, a, b)

    def test_of_a_forest_to_itself(self):
        for size in SIZES:
            for dump in checked_dumps(size):
                forest = forest_of(dump)
                self.assert_told(sorted(of_dump(dump).out), kept, forest, forest)
                self.assert_told(0, distance, forest, forest)
                self.assert_told([], first_plan, forest, forest)
                self.assert_told(1, count_plans, forest, forest)
                self.assert_told(True, is_plan, forest, forest, [])
                self.assert_told(True, reaches_in, forest, forest, 0)

    def test_a_node_with_the_same_links_over_another_tree_is_not_kept(self):
        a, b = Forest.read("((*(*))*)"), Forest.read("(((*)*)*)")
        self.assert_told([], kept, a, b)
        self.assert_told([1, 3], kept, Forest.read("((*)*(*))."), Forest.read("((*)*((*)*))"))

    def test_size_60(self):
        for a, b in random_pairs(60, 12):
            steps = self.at_once(distance, a, b)
            self.assertEqual(self.at_once(distance, b, a), steps)
            self.assertEqual(self.at_once(kept, a, b), kept_by_definition(of_dump(a.links().dump()),
                                                                         of_dump(b.links().dump())))
            plan = self.at_once(first_plan, a, b)
            self.assertEqual(len(plan), steps)
            self.assertEqual((plan, b), plan_by_definition(a, b))
            self.assertIs(self.at_once(is_plan, a, b, plan), True)
            self.assertIs(self.at_once(reaches_in, a, b, steps + 2), True)

    def test_lists_are_new(self):
        a, b = Forest.after(5, [1, 2, 4]), Forest.after(5, [1, 2, 5])
        self.assert_new(kept, a, b)
        self.assert_new(first_plan, a, b)
        self.assert_new(first_plan, a, a)


class ReachesTest(LinkCase):
    """Point 37: logs of a given length."""

    def test_a_search(self):
        for size in SIZES:
            for dump in checked_dumps(size):
                here = {dump}
                for many in range(2 * size + 5):
                    for goal in checked_dumps(size):
                        self.assert_told(goal in here, reaches_in, forest_of(dump), forest_of(goal), many)
                    here = {later for there in here for _, later in checked_steps(size)[there]}

    def test_below_0_and_below_the_distance(self):
        a, b = Forest.after(5, [1, 2, 4]), Forest.after(5, [1, 2, 5])
        told = {-2: False, -1: False, 0: False, 1: False, 2: True, 3: False, 4: True, 5: False, 10 ** 30: True}
        for many, right in told.items():
            self.assert_told(right, reaches_in, a, b, many)
        for many in (-2, -1, -4, -10 ** 20):
            for forest in (a, Forest(0), Forest(1), Forest(60)):
                self.assert_told(False, reaches_in, forest, forest, many)

    def test_size_0(self):
        for many in (1, 2, 3, 4, 100):
            self.assert_told(False, reaches_in, Forest(0), Forest(0), many)
        self.assert_told(True, reaches_in, Forest(0), Forest(0), 0)

    def test_size_1(self):
        whole, out = Forest(1), Forest.after(1, [1])
        for many in range(6):
            self.assert_told(many % 2 == 0, reaches_in, whole, whole, many)
            self.assert_told(many % 2 == 1, reaches_in, whole, out, many)
            self.assert_told(many % 2 == 1, reaches_in, out, whole, many)


class PlanTest(LinkCase):
    """Point 38."""

    def test_a_search(self):
        for size, dump, goal in [*pairs(0, 1, 2, 3), *some_pairs(4, 250)]:
            a, b = forest_of(dump), forest_of(goal)
            plans = shortest_plans(size, dump, goal)
            self.assert_told(len(plans), count_plans, a, b)
            plan, end = plan_by_definition(a, b)
            self.assertEqual(end, b)
            self.assert_told(plan, first_plan, a, b)
            self.assertIn(plan, plans)
            stay = kept(a, b)
            acts = [node for node in range(1, size + 1) if node in a and node not in stay]
            acts += [-node for node in range(1, size + 1) if node in b and node not in stay]
            for log in plans:
                self.assertIs(is_plan(a, b, log), True)
                self.assertEqual(sorted(log), sorted(acts))

    def test_the_numbers_of_plans(self):
        for size, dump, goal in [*some_pairs(5, 60), *some_pairs(6, 25)]:
            if distances_from(size, goal)[dump] <= 9:
                plans = shortest_plans(size, dump, goal)
                self.assert_told(len(plans), count_plans, forest_of(dump), forest_of(goal))

    def test_every_short_log(self):
        logs = {size: [list(log) for many in range(4) for log in product(range(-size - 1, size + 2), repeat=many)]
                for size in (0, 1, 2)}
        for size, dump, goal in pairs(0, 1, 2):
            a, b = forest_of(dump), forest_of(goal)
            plans = shortest_plans(size, dump, goal)
            for log in logs[size]:
                self.assertIs(is_plan(a, b, log), log in plans, (dump, goal, log))

    def test_logs_that_are_no_least_plan(self):
        a, b = Forest.after(3, [1, 2, 3]), Forest.after(3, [3, 2, 1])
        plan = [3, 2, 1, -3, -2, -1]
        self.assert_told(True, is_plan, a, b, plan)
        for log in ([], plan[:5], plan + [1, -1], [-1, 1] + plan, plan[::-1], [2, 3, 1, -3, -2, -1],
                    [3, 2, 1, -3, -1, -2], [3, 2, 1, -1, -2, -3], [0] * 6, [4, 2, 1, -3, -2, -1], [3, 3, 2, 1, -3, -2],
                    [-3, 2, 1, -3, -2, -1], [3, 2, 1, -3, -2, 0], [3, 2, 1, -3, -2, -10 ** 20]):
            self.assert_told(False, is_plan, a, b, log)
        # The free mode admits these, too.
        a, b = Forest.after(2, [1, 2]), Forest(2)
        self.assert_told(True, is_plan, a, b, [2, 1])
        self.assert_told(False, is_plan, a, b, [1, 2])

    def test_a_relink_may_wait(self):
        a, b = Forest.read("(*)...."), Forest.read("....(*)")
        self.assert_told(2, count_plans, a, b)
        self.assert_told([1, -5], first_plan, a, b)
        self.assert_told(True, is_plan, a, b, [-5, 1])

    def test_a_distance_of_12(self):
        apart = [4 * node for node in range(1, 13)]
        whole, out = Forest(60), Forest.after(60, apart)
        self.assertEqual(self.at_once(count_plans, whole, out), factorial(12))
        self.assertEqual(self.at_once(count_plans, out, whole), factorial(12))
        chain = Forest.after(60, list(range(1, 13)))
        self.assertEqual(self.at_once(count_plans, whole, chain), 1)
        a, b = Forest.after(60, [1, 2, 3, 4, 5, 6]), Forest.after(60, [31, 32, 33, 34, 35, 36])
        self.assertEqual(self.at_once(count_plans, a, b), factorial(12) // factorial(6) ** 2)

    def test_a_distance_of_13(self):
        apart = [4 * node for node in range(1, 14)]
        whole, out = Forest(60), Forest.after(60, apart)
        for a, b in ((whole, out), (out, whole), far_pair(7), far_pair(60),
                     (Forest.after(60, apart[:6]), Forest.after(60, apart[6:]))):
            self.assertGreater(distance(a, b), 12)
            self.assert_error(TooMany(12), count_plans, a, b)
        self.assertEqual(distance(whole, out), 13)


class WidestTest(LinkCase):
    """Point 37: the greatest distance."""

    def test_the_numbers(self):
        self.assertEqual([widest(size) for size in range(5)], [0, 1, 4, 6, 8])
        for size in range(2, 61):
            self.assert_told(2 * size, widest, size)

    def test_a_search(self):
        for size in range(5):
            far = max(max(distances_from(size, dump).values()) for dump in checked_dumps(size))
            self.assert_told(far, widest, size)

    def test_far_pairs(self):
        for size in range(61):
            pair = far_pair(size)
            self.assertIs(type(pair), tuple)
            a, b = pair
            self.assertEqual((type(a), type(b), a.size, b.size), (Forest, Forest, size, size))
            self.assertEqual(self.at_once(distance, a, b), widest(size))

    def test_bad_sizes(self):
        for function in (widest, far_pair):
            for size in (-1, 61):
                self.assert_error(BadSize(size), function, size)


class MismatchTest(LinkCase):
    def test_two_sizes(self):
        for first, second in ((0, 1), (1, 0), (3, 2), (2, 60), (60, 59)):
            a, b = Forest(first), Forest.after(second, list(range(1, second + 1)))
            error = SizeMismatch(first, second)
            for function in (kept, distance, first_plan, count_plans):
                self.assert_error(error, function, a, b)
            for many in (-1, 0, 1, 2):
                self.assert_error(error, reaches_in, a, b, many)
            for log in ([], [0], [1], [99, -99]):
                self.assert_error(error, is_plan, a, b, log)

    def test_the_sizes_come_before_the_distance(self):
        a, b = Forest.after(60, list(range(1, 61))), Forest.after(59, list(range(59, 0, -1)))
        self.assert_error(SizeMismatch(60, 59), count_plans, a, b)
        self.assert_error(SizeMismatch(59, 60), count_plans, b, a)


if __name__ == "__main__":
    unittest.main()
