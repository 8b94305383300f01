"""Repairs: points 2, 3, 25 and 26."""

import random
import unittest
from itertools import combinations, permutations, product
from math import factorial

from latelink.debts import can_finish, debt_of, due_nodes, is_repairable
from latelink.errors import BadCount, BadNode, Barred, NotRepairable, TooMany
from latelink.links import Links
from latelink.repairs import count_repairs, first_repair, is_least_repair, is_repair, repair_within, repairs
from latelink.replay import play, replay
from tests.helpers import LinkCase, made
from tests.model import Model, after, all_logs, of_dump, signed
from tests.search import SIZES, all_steps, costs_to_whole, shortest_logs

LOG = [-1, -2, 1, -3, 2, 3]
LOSING = [-2, -3, 2, -1, -4]
EVERY = 10 ** 6


def one_lost():
    return made(4, {2: 4}, {3: 1}, 3)


def two_lost():
    return made(4, {1: 3, 2: 4}, {2: 0, 3: 1})


def in_and_due():
    """Node 2 holds the gap 1 alone, and node 4 the gap 4; both are in."""
    return made(5, {1: 3}, {5: 2})


def apart(size, many):
    """A standing with so many nodes out, no two of which are neighbours: all orders of relinks are repairs."""
    return replay(size, [-2 * node for node in range(1, many + 1)])


def some_standings():
    """All standings of the sizes 0 to 2 from which a repair leads, and many of size 3."""
    for size in SIZES:
        for dump in list(all_steps(size))[::1 if size < 3 else 3]:
            if dump in costs_to_whole(size):
                yield size, dump


class FirstRepairTest(LinkCase):
    def test_examples(self):
        self.assert_told([-1, 1], first_repair, replay(3, LOG))
        links = replay(3, [-1, -2, -3])
        self.assert_told(5, count_repairs, links)
        self.assert_told([[1, 2, 3], [2, 1, 3]], repairs, links, most=2)

    def test_the_whole_list(self):
        for size in (0, 1, 5, 60):
            self.assert_told([], first_repair, Links(size))
            self.assert_told([[]], repairs, Links(size))
            self.assert_told([[]], repairs, Links(size), most=1)
            self.assert_told(1, count_repairs, Links(size))
            self.assert_told([], repair_within, Links(size), [])
            self.assert_told(True, is_repair, Links(size), [])
            self.assert_told(True, is_least_repair, Links(size), [])

    def test_nodes_that_are_in_and_due_act_twice(self):
        self.assert_told([-2, 2, -4, 4], first_repair, in_and_due())
        self.assert_told(6, count_repairs, in_and_due())
        self.assert_told([[-2, 2, -4, 4], [-2, -4, 2, 4], [-2, -4, 4, 2], [-4, -2, 2, 4], [-4, -2, 4, 2],
                          [-4, 4, -2, 2]], repairs, in_and_due())
        self.assert_told([2, -4, 4], first_repair, play(in_and_due(), [-2]))

    def test_size_60(self):
        dice = random.Random(60)
        for _ in range(20):
            log = signed(dice.choices(range(1, 61), k=dice.randint(1, 50)))
            links = replay(60, log)
            if is_repairable(links):
                repair = self.at_once(first_repair, links)
                self.assertEqual(len(repair), debt_of(links))
                self.assertTrue(play(links, repair).is_whole())
                self.assertIs(self.at_once(is_least_repair, links, repair), True)
                self.assertEqual(self.at_once(repair_within, links, list(range(60, 0, -1))), repair)

    def test_the_greatest_debt(self):
        links = made(60, {node: 61 for node in range(60)}, {})
        repair = self.at_once(first_repair, links)
        self.assertEqual(sorted(repair), [node for node in range(-60, 61) if node])
        self.assertTrue(play(links, repair).is_whole())
        self.assertEqual(len(self.at_once(repairs, links, most=50)), 50)
        self.assertEqual(self.at_once(first_repair, replay(60, list(range(-60, 0)))), list(range(1, 61)))
        self.assertEqual(len(self.at_once(repairs, replay(60, list(range(-60, 0))), most=500)), 500)

    def test_errors(self):
        for function in (first_repair, repairs, count_repairs):
            self.assert_error(NotRepairable(1), function, replay(4, LOSING))
            self.assert_error(NotRepairable(2), function, one_lost())
            self.assert_error(NotRepairable(1), function, two_lost())
            self.assert_error(NotRepairable(58), function, made(60, {58: 60}, {59: 57}))


class MainFactTest(LinkCase):
    """Point 25, against a search over all standings of small lists."""

    def test_the_search_finds_the_same_repairs(self):
        for size, dump in some_standings():
            links = Links.read(dump)
            expected = [list(log) for log in shortest_logs(size, dump)]
            self.assertEqual(first_repair(links), expected[0], dump)
            self.assertEqual(repairs(links, most=EVERY), expected, dump)
            self.assertEqual(repairs(links), expected[:20], dump)
            self.assertEqual(count_repairs(links), len(expected), dump)
            self.assertEqual(links.dump(), dump)

    def test_no_repair_exactly_if_a_gap_is_lost(self):
        for size in SIZES:
            for dump in all_steps(size):
                states = of_dump(dump).states()
                self.assertEqual("lost" in states, dump not in costs_to_whole(size), dump)
                if "lost" in states:
                    gap = states.index("lost")
                    for function in (first_repair, repairs, count_repairs):
                        self.assert_error(NotRepairable(gap), function, Links.read(dump))

    def test_how_often_each_node_acts(self):
        for size, dump in some_standings():
            model = of_dump(dump)
            acts = sorted(model.out) + 2 * sorted(model.sole_holders() - model.out)
            for log in repairs(Links.read(dump), most=30):
                self.assertEqual(sorted(map(abs, log)), sorted(acts), dump)

    def test_each_operation_lowers_the_debt_by_one(self):
        for size, dump in some_standings():
            links = Links.read(dump)
            for order in product(range(1, size + 1), repeat=min(debt_of(links), 4)):
                log = signed(order, links.outs())
                standings = [links] + [play(links, log[:length]) for length in range(1, len(log) + 1)]
                debts = [debt_of(later) if is_repairable(later) else None for later in standings]
                descending = debts == list(range(debts[0], -1, -1))
                self.assertIs(is_least_repair(links, log), descending, (dump, log))

    def test_reached_standings_of_size_5(self):
        dice = random.Random(5)
        for _ in range(60):
            links = replay(5, signed(dice.choices(range(1, 6), k=dice.randint(3, 14))))
            if is_repairable(links):
                found = repairs(links, most=EVERY)
                nodes = [[abs(operation) for operation in log] for log in found]
                self.assertEqual(nodes, sorted(nodes))
                self.assertEqual(len(set(map(tuple, found))), len(found))
                self.assertEqual(count_repairs(links), len(found))
                self.assertEqual(first_repair(links), found[0])
                for log in found:
                    self.assertTrue(play(links, log).is_whole())


class MostTest(LinkCase):
    """The number of repairs that are asked for."""

    def test_one_more_and_one_less(self):
        for links in (replay(3, [-1, -2, -3]), in_and_due(), apart(60, 4), replay(4, [-1, -2, 1, -3])):
            every = repairs(links, most=EVERY)
            many = len(every)
            self.assert_told(many, count_repairs, links)
            for most in (1, 2, many - 1, many, many + 1, many + 100):
                self.assert_told(every[:most], repairs, links, most=most)
            self.assert_told([first_repair(links)], repairs, links, most=1)

    def test_20_without_a_number(self):
        self.assertEqual(count_repairs(apart(60, 4)), 24)
        self.assert_told(repairs(apart(60, 4), most=24)[:20], repairs, apart(60, 4))
        self.assertEqual(len(repairs(apart(60, 4))), 20)

    def test_very_many(self):
        found = self.at_once(repairs, apart(60, 30), most=30)
        self.assertEqual(found[0], list(range(2, 61, 2)))
        self.assertEqual(found[1], list(range(2, 57, 2)) + [60, 58])
        self.assertEqual(len(found), 30)

    def test_bad_counts(self):
        for most in (0, -1, -100):
            for links in (Links(0), Links(3), replay(3, LOG), two_lost(), replay(4, LOSING)):
                self.assert_error(BadCount(most), repairs, links, most=most)
        self.assert_error(NotRepairable(1), repairs, two_lost(), most=1)

    def test_lists_are_new(self):
        links = replay(3, [-1, -2, -3])
        self.assert_new(repairs, links)
        self.assert_new(first_repair, links)
        self.assert_new(first_repair, Links(2))
        self.assert_new(repairs, Links(2))
        found = repairs(links)
        found[0].append(9)
        self.assertEqual(repairs(links)[0], [1, 2, 3])
        self.assertEqual(found[1], [2, 1, 3])


class CountTest(LinkCase):
    def test_all_orders(self):
        for many in range(13):
            self.assertEqual(self.at_once(count_repairs, apart(60, many)), factorial(many))
        self.assertEqual(self.at_once(count_repairs, apart(60, 12)), 479001600)
        self.assertEqual(self.at_once(count_repairs, apart(24, 12)), 479001600)

    def test_a_debt_of_12(self):
        # Node 1 leaves first, so that many orders of return are wrong.
        self.assertEqual(self.at_once(count_repairs, replay(12, list(range(-1, -13, -1)))), 186167087)
        self.assertEqual(self.at_once(count_repairs, replay(60, list(range(-40, -52, -1)))), 186167087)
        # Six nodes that are in and due: the unlink of each comes before its relink, and nothing else matters.
        links = made(24, {4 * node: 4 * node + 2 for node in range(6)}, {})
        self.assertEqual(debt_of(links), 12)
        self.assertEqual(self.at_once(count_repairs, links), factorial(12) // 2 ** 6)

    def test_a_debt_of_13(self):
        for links in (apart(60, 13), apart(60, 14), apart(60, 30), replay(13, list(range(-13, 0))),
                      made(60, {node: 61 for node in range(60)}, {}),
                      play(made(28, {4 * node: 4 * node + 2 for node in range(7)}, {}), [-1])):
            self.assert_error(TooMany(12), count_repairs, links)
        self.assertEqual(debt_of(apart(60, 13)), 13)
        # A lost gap is told first.
        links = apart(60, 29)
        lost = made(60, {57: 59}, {58: 56}, *links.outs())
        self.assert_error(NotRepairable(57), count_repairs, lost)


class IsRepairTest(LinkCase):
    def test_ordinary(self):
        links = replay(3, LOG)
        self.assert_told(True, is_repair, links, [-1, 1])
        self.assert_told(True, is_least_repair, links, [-1, 1])
        self.assert_told(True, is_repair, links, [-3, 3, -1, 1])
        self.assert_told(False, is_least_repair, links, [-3, 3, -1, 1])
        self.assert_told(True, is_repair, links, [-1, 1, -1, 1])
        self.assert_told(False, is_least_repair, links, [-1, 1, -1, 1])
        for log in ([], [-1], [1, -1], [-1, 1, -1], [-2, 2], [0], [-1, 1, 0], [0, -1, 1], [-4, 4], [-1, -1, 1],
                    [-1, 1, 1], [99], [-1, 1, -10 ** 20]):
            self.assert_told(False, is_repair, links, log)
            self.assert_told(False, is_least_repair, links, log)

    def test_of_the_whole_list(self):
        self.assert_told(True, is_repair, Links(2), [-1, 1])
        self.assert_told(False, is_least_repair, Links(2), [-1, 1])
        self.assert_told(False, is_repair, Links(0), [1])
        self.assert_told(False, is_repair, Links(0), [0])
        self.assert_told(False, is_least_repair, Links(0), [0])

    def test_of_a_standing_with_a_lost_gap(self):
        for links in (one_lost(), two_lost(), replay(4, LOSING)):
            for log in ([], [3], [1, 3, 4], [-1, 1], [0], [-2, 2, 1]):
                self.assert_told(False, is_repair, links, log)
                self.assert_told(False, is_least_repair, links, log)

    def test_every_short_log(self):
        for dump in [dump for _, dump in some_standings() if len(dump) < 30][::40] + [replay(2, [-1, -2]).dump()]:
            links = Links.read(dump)
            least = costs_to_whole(links.size)[dump]
            for log in all_logs(links.size, 4):
                nodes = [abs(operation) for operation in log]
                right = log == signed(nodes, links.outs())
                if right:
                    model = of_dump(dump)
                    for operation in log:
                        model.apply(operation)
                    right = model.dump() == Model(links.size).dump()
                self.assertIs(is_repair(links, log), right, (dump, log))
                self.assertIs(is_least_repair(links, log), right and len(log) == least, (dump, log))

    def test_long_logs(self):
        log = [sign * node for _ in range(20) for node in range(1, 61) for sign in (-1, 1)]
        self.assertIs(self.at_once(is_repair, Links(60), log), True)
        self.assertIs(self.at_once(is_least_repair, Links(60), log), False)
        self.assertIs(self.at_once(is_repair, Links(60), log + [1]), False)


class WithinTest(LinkCase):
    """Point 26: only some nodes may act."""

    def test_ordinary(self):
        links = replay(3, LOG)
        self.assert_told([-1, 1], repair_within, links, [1])
        self.assert_told([-1, 1], repair_within, links, [3, 2, 1])
        self.assert_told([-1, 1], repair_within, links, [2, 1, 1, 2, 1])
        self.assert_told([-2, 2, -4, 4], repair_within, in_and_due(), [4, 2])
        self.assert_error(Barred(1), repair_within, links, [])
        self.assert_error(Barred(1), repair_within, links, [2, 3])
        self.assert_error(Barred(4), repair_within, in_and_due(), [2, 5, 2])
        self.assert_error(Barred(2), repair_within, in_and_due(), [1, 3, 5])
        self.assert_error(Barred(2), repair_within, in_and_due(), [4])

    def test_every_choice_of_nodes(self):
        for size, dump in some_standings():
            links = Links.read(dump)
            for many in range(size + 1):
                for allowed in combinations(range(1, size + 1), many):
                    barred = [node for node in due_nodes(links) if node not in allowed]
                    if barred:
                        self.assert_error(Barred(barred[0]), repair_within, links, list(allowed))
                    else:
                        self.assertEqual(repair_within(links, list(allowed)), first_repair(links))

    def test_the_order_of_errors(self):
        for links in (replay(3, LOG), made(3, {1: 3}, {2: 0}), Links(3)):
            for wrong in (0, 4, -1, 61):
                self.assert_error(BadNode(wrong), repair_within, links, [wrong])
                self.assert_error(BadNode(wrong), repair_within, links, [1, 2, wrong, 3])
                self.assert_error(BadNode(wrong), repair_within, links, [2, wrong, 99, -99])
        self.assert_error(BadNode(1), repair_within, Links(0), [1])
        self.assert_error(NotRepairable(1), repair_within, made(3, {1: 3}, {2: 0}, 3), [])
        self.assert_error(NotRepairable(1), repair_within, made(3, {1: 3}, {2: 0}, 3), [1, 2, 3])
        self.assert_told([], repair_within, Links(60), [60, 1])


class RelinksTest(LinkCase):
    """Point 26: relinks alone."""

    def test_the_orders_of_relinks_that_end_whole(self):
        for size, dump in some_standings():
            links = Links.read(dump)
            whole = [list(order) for order in permutations(links.outs()) if play(links, list(order)).is_whole()]
            self.assertEqual(bool(whole), can_finish(links), dump)
            if whole:
                self.assertEqual(repairs(links, most=EVERY), whole, dump)

    def test_the_chain(self):
        links = replay(5, [-1, -2, -3, -4, -5])
        orders = [list(order) for order in permutations(range(1, 6)) if play(links, list(order)).is_whole()]
        self.assert_told(orders, repairs, links, most=EVERY)
        self.assertEqual(after(5, [-1, -2, -3, -4, -5] + orders[0]).dump(), Model(5).dump())


if __name__ == "__main__":
    unittest.main()
