"""Facts: points 2, 3 and 46."""

import unittest

from latelink.errors import BadFact, BadNode, BadSize
from latelink.facts import check_facts, facts_of, is_true
from latelink.links import Links
from latelink.replay import replay
from tests.helpers import LinkCase
from tests.model import all_dumps, of_dump


def all_facts(size):
    """Point 46: all facts about standings of the size."""
    facts = [(word, x) for word in ("in", "out") for x in range(1, size + 1)]
    facts += [("left", x, l) for x in range(1, size + 2) for l in range(x)]
    return facts + [("right", x, r) for x in range(size + 1) for r in range(x + 1, size + 2)]


def near_facts(size):
    """Tuples with numbers around those of facts."""
    numbers = range(-2, size + 4)
    short = [(word, x) for word in ("in", "out", "left", "right") for x in numbers]
    long = [(word, x, other) for word in ("in", "out", "left", "right") for x in numbers for other in numbers]
    return short + long


def is_true_by_definition(model, fact):
    if fact[0] in ("in", "out"):
        return (fact[1] in model.out) == (fact[0] == "out")
    return (model.left if fact[0] == "left" else model.right)[fact[1]] == fact[2]


class CheckFactsTest(LinkCase):
    def test_every_fact(self):
        for size in (0, 1, 2, 5, 60):
            self.assert_told(None, check_facts, size, all_facts(size))
        self.assert_told(None, check_facts, 0, [])

    def test_numbers_around_the_bounds(self):
        for size in (0, 1, 2, 3):
            right = all_facts(size)
            for fact in near_facts(size):
                if fact in right:
                    self.assert_told(None, check_facts, size, [fact])
                else:
                    self.assert_error(BadFact(0), check_facts, size, [fact])

    def test_the_bounds_of_size_60(self):
        for fact in (("in", 60), ("out", 60), ("left", 61, 0), ("left", 61, 60), ("right", 0, 61), ("right", 60, 61)):
            self.assert_told(None, check_facts, 60, [fact])
        for fact in (("in", 0), ("out", 0), ("in", 61), ("out", 61), ("left", 62, 0), ("left", 61, 61), ("left", 1, -1),
                     ("left", 0, 0), ("right", 61, 62), ("right", 60, 62), ("right", -1, 0), ("right", 7, 7)):
            self.assert_error(BadFact(1), check_facts, 60, [("in", 60), fact])

    def test_other_words_and_lengths(self):
        for fact in (("", 1), ("In", 1), ("in ", 1), ("inside", 1), ("i", 1), ("lef", 2, 1), ("LEFT", 2, 1), ("gap", 1),
                     ("in",), ("out",), ("left",), ("right",), ("in", 1, 2), ("out", 1, 1), ("left", 2), ("right", 2),
                     ("left", 2, 1, 0), ("right", 1, 2, 3), ("in", 1, 1, 1), ("odd", 1, 2), ("odd",), ("", 2, 1)):
            self.assert_error(BadFact(0), check_facts, 3, [fact])
            self.assert_error(BadFact(0), is_true, Links(3), fact)

    def test_the_first_wrong_one(self):
        facts = [("in", 1), ("out", 1), ("left", 2, 2), ("in", 4), ("odd",)]
        self.assert_error(BadFact(2), check_facts, 3, facts)
        self.assert_error(BadFact(0), check_facts, 3, facts[::-1])
        self.assert_error(BadFact(6), check_facts, 3, facts[:2] * 2 + facts)

    def test_the_size_comes_first(self):
        for size in (-1, 61):
            self.assert_error(BadSize(size), check_facts, size, [("odd",)])
            self.assert_error(BadSize(size), check_facts, size, [])


class IsTrueTest(LinkCase):
    def test_all_standings(self):
        for size in (0, 1, 2):
            for dump in all_dumps(size):
                for fact in all_facts(size):
                    self.assert_told(is_true_by_definition(of_dump(dump), fact), is_true, Links.read(dump), fact)

    def test_size_3(self):
        for dump in list(all_dumps(3))[::7]:
            links = Links.read(dump)
            for fact in all_facts(3):
                self.assertIs(is_true(links, fact), is_true_by_definition(of_dump(dump), fact))

    def test_wrong_facts(self):
        links = replay(3, [-2, -1])
        right = all_facts(3)
        for fact in near_facts(3):
            if fact not in right:
                self.assert_error(BadFact(0), is_true, links, fact)


class FactsOfTest(LinkCase):
    def test_example(self):
        facts = [("out", 2), ("left", 2, 1), ("right", 2, 3), ("out", 1), ("left", 1, 0), ("right", 1, 3)]
        self.assert_told(facts, facts_of, replay(3, [-2, -1]), [2, 1])

    def test_a_node_twice(self):
        facts = [("in", 3), ("left", 3, 2), ("right", 3, 4)]
        self.assert_told(facts * 3, facts_of, Links(3), [3, 3, 3])
        self.assert_told(facts + [("in", 1), ("left", 1, 0), ("right", 1, 2)] + facts, facts_of, Links(3), [3, 1, 3])

    def test_no_nodes(self):
        for size in (0, 1, 60):
            self.assert_told([], facts_of, Links(size), [])

    def test_all_standings(self):
        for size in (1, 2):
            for dump in all_dumps(size):
                nodes = list(range(size, 0, -1))
                links = Links.read(dump)
                right = [fact for fact in all_facts(size) if is_true(links, fact) and 1 <= fact[1] <= size]
                self.assertEqual(sorted(self.told(facts_of, links, nodes)), sorted(right))
                self.assertEqual([fact[1] for fact in facts_of(links, nodes)], sorted(nodes * 3, reverse=True))

    def test_size_60(self):
        links = replay(60, [-node for node in range(1, 61)])
        facts = self.at_once(facts_of, links, list(range(1, 61)))
        self.assertEqual(facts[-3:], [("out", 60), ("left", 60, 0), ("right", 60, 61)])
        self.assertEqual(len(facts), 180)
        self.assert_told(None, check_facts, 60, facts)

    def test_no_node(self):
        links = replay(3, [-2])
        for node in (0, 4, -1, 61, -10 ** 20):
            self.assert_error(BadNode(node), facts_of, links, [node])
            self.assert_error(BadNode(node), facts_of, links, [1, 2, node, 3, 5, 0])
        self.assert_error(BadNode(1), facts_of, Links(0), [1, 0])

    def test_tuples_and_a_new_list(self):
        links = replay(3, [-2])
        self.assertEqual({type(fact) for fact in facts_of(links, [1, 2, 3])}, {tuple})
        self.assert_new(facts_of, links, [1, 2])
        self.assert_new(facts_of, links, [])


if __name__ == "__main__":
    unittest.main()
