"""Checked standings that fit facts: points 2, 3 and 47."""

import random
import unittest
from functools import lru_cache
from itertools import product

from latelink.errors import BadFact, BadPlace, BadSize, NoFit
from latelink.facts import facts_of
from latelink.fits import count_fits, each_fit, fit_at, status
from latelink.forest import Forest
from latelink.links import Links
from latelink.ranks import count_forests, each_forest, forest_at, rank
from tests.helpers import LinkCase
from tests.model import of_dump
from tests.test_facts import all_facts, is_true_by_definition
from tests.trees import checked_dumps, order_key, text_of


@lru_cache(maxsize=None)
def checked_models(size):
    """All checked standings of the size in the order of their ranks."""
    return sorted([of_dump(dump) for dump in checked_dumps(size)], key=order_key)


def fits_by_definition(size, facts):
    return [model for model in checked_models(size) if all(is_true_by_definition(model, fact) for fact in facts)]


def status_by_definition(models, fact):
    told = {is_true_by_definition(model, fact) for model in models}
    return {(True,): "sure", (False,): "never"}.get(tuple(told), "open")


def lists_of_facts(size, length, many=None):
    """All lists of so many facts about the size, or some of them."""
    if many is None:
        return [list(facts) for facts in product(all_facts(size), repeat=length)]
    dice = random.Random(size * 100 + length)
    return [dice.choices(all_facts(size), k=length) for _ in range(many)]


def facts_of_some_standings(size, length, many):
    """Lists of facts that at least one checked standing fits."""
    dice = random.Random(size * 1000 + length)
    for _ in range(many):
        model = dice.choice(checked_models(size))
        true = [fact for fact in all_facts(size) if is_true_by_definition(model, fact)]
        yield dice.choices(true, k=length)


class SearchTest(LinkCase):
    def families(self):
        for size in (0, 1, 2, 3):
            yield from [(size, facts) for length in (0, 1, 2) for facts in lists_of_facts(size, length)]
        for size, length, many in ((2, 3, 60), (3, 3, 120), (4, 2, 120), (5, 2, 40), (5, 3, 40), (6, 1, 12)):
            yield from [(size, facts) for facts in lists_of_facts(size, length, many)]
        for size, length, many in ((4, 3, 60), (5, 3, 30), (5, 5, 30), (6, 4, 12)):
            yield from [(size, facts) for facts in facts_of_some_standings(size, length, many)]

    def test_fits(self):
        told = set()
        for size, facts in self.families():
            texts = [text_of(model) for model in fits_by_definition(size, facts)]
            self.assert_told(len(texts), count_fits, size, facts)
            found = self.told(lambda *values: list(each_fit(*values)), size, facts)
            self.assertEqual([str(forest) for forest in found], texts, facts)
            for place in {0, 1, len(texts) // 2, len(texts) - 1} & set(range(len(texts))):
                forest = self.told(fit_at, size, facts, place)
                self.assertEqual((str(forest), type(forest)), (texts[place], Forest))
            for place in (-1, len(texts), len(texts) + 1, -len(texts) - 1, 10 ** 40):
                self.assert_error(BadPlace(place), fit_at, size, facts, place)
            told.add(min(len(texts), 3))
        self.assertEqual(told, {0, 1, 2, 3})

    def test_status(self):
        told = set()
        families = [(size, facts) for size in (0, 1, 2, 3) for length in (0, 1) for facts in lists_of_facts(size, length)]
        families += [(3, facts) for facts in lists_of_facts(3, 2, 60)]
        families += [(size, facts) for size in (3, 4) for facts in facts_of_some_standings(size, 3, 20)]
        for size, facts in families:
            models = fits_by_definition(size, facts)
            for fact in all_facts(size):
                if models:
                    right = status_by_definition(models, fact)
                    self.assert_told(right, status, size, facts, fact)
                    told.add(right)
                else:
                    self.assert_error(NoFit(size), status, size, facts, fact)
        self.assertEqual(told, {"sure", "never", "open"})

    def test_every_place(self):
        for size in (0, 1, 2, 3, 4, 5):
            forests = list(each_forest(size))
            self.assertEqual(list(each_fit(size, [])), forests)
            self.assertEqual([fit_at(size, [], place) for place in range(len(forests))], forests)


class OrdinaryTest(LinkCase):
    def test_examples(self):
        facts = [("out", 2)]
        self.assert_told(10, count_fits, 3, facts)
        self.assert_told("open", status, 3, facts, ("right", 2, 3))
        self.assert_told("never", status, 3, [("out", 1), ("left", 2, 1)], ("right", 1, 2))

    def test_facts_that_stand_there_twice(self):
        facts = [("out", 2), ("left", 3, 2), ("right", 0, 1)]
        self.assertGreater(count_fits(3, facts), 0)
        for again in (facts * 2, facts + facts[::-1], facts * 50):
            self.assert_told(count_fits(3, facts), count_fits, 3, again)
            self.assertEqual(list(each_fit(3, again)), list(each_fit(3, facts)))

    def test_facts_that_contradict_each_other(self):
        for facts in ([("in", 1), ("out", 1)], [("left", 2, 1), ("left", 2, 0)], [("right", 0, 1), ("right", 0, 2)],
                      [("left", 2, 1), ("left", 2, 0), ("left", 2, 1)], [("in", 2), ("out", 2), ("in", 2), ("out", 2)],
                      [("in", 1), ("left", 2, 0), ("in", 2)], [("right", 0, 4), ("in", 1)]):
            self.assert_told(0, count_fits, 3, facts)
            self.assertEqual(list(each_fit(3, facts)), [])
            for place in (-1, 0, 1):
                self.assert_error(BadPlace(place), fit_at, 3, facts, place)
            self.assert_error(NoFit(3), status, 3, facts, ("in", 1))

    def test_the_sentinels(self):
        # The tail is linked to the head exactly if all nodes are out.
        self.assert_told(5, count_fits, 3, [("left", 4, 0)])
        self.assert_told("sure", status, 3, [("left", 4, 0)], ("right", 0, 4))
        self.assert_told("sure", status, 3, [("right", 0, 4)], ("out", 2))
        self.assert_told("sure", status, 0, [], ("left", 1, 0))
        self.assert_told("sure", status, 0, [("right", 0, 1)], ("right", 0, 1))

    def test_sizes_0_and_1(self):
        self.assert_told(1, count_fits, 0, [])
        self.assertEqual(fit_at(0, [], 0), Forest(0))
        self.assertEqual([str(forest) for forest in each_fit(1, [])], [".", "(*)"])
        self.assert_told("open", status, 1, [], ("in", 1))
        self.assert_told("sure", status, 1, [], ("right", 1, 2))

    def test_fits_come_in_the_order_of_their_ranks(self):
        ranks = [rank(forest) for forest in each_fit(6, [("out", 3)])]
        self.assertEqual(ranks, sorted(set(ranks)))
        self.assertEqual(len(list(each_fit(8, [("out", 1), ("out", 8)]))), count_fits(8, [("out", 1), ("out", 8)]))


class Size60Test(LinkCase):
    def test_without_facts(self):
        many = count_forests(60)
        self.assertEqual(self.at_once(count_fits, 60, []), many)
        for place in (0, 1, many // 3, many // 2 + 7, many - 1):
            self.assertEqual(self.at_once(fit_at, 60, [], place), forest_at(60, place))
        for place in (-1, many, many * 2):
            self.assert_error(BadPlace(place), fit_at, 60, [], place)
        self.assertEqual(self.at_once(status, 60, [], ("right", 30, 31)), "open")

    def test_a_node_that_is_in_parts_the_list(self):
        for node in (1, 20, 60):
            inside = self.at_once(count_fits, 60, [("in", node)])
            self.assertEqual(inside, count_forests(node - 1) * count_forests(60 - node))
            self.assertEqual(inside + count_fits(60, [("out", node)]), count_forests(60))

    def test_all_that_is_known_of_one_standing(self):
        dice = random.Random(60)
        for _ in range(5):
            forest = Forest.after(60, dice.sample(range(1, 61), dice.randint(0, 60)))
            facts = facts_of(forest.links(), list(range(1, 61)))
            dice.shuffle(facts)
            self.assertEqual(self.at_once(count_fits, 60, facts), 1)
            self.assertEqual(self.at_once(fit_at, 60, facts, 0), forest)
            self.assertEqual(list(each_fit(60, facts)), [forest])
            for fact in facts[:5]:
                self.assertEqual(self.at_once(status, 60, facts, fact), "sure")
            node = dice.randint(1, 60)
            other = "in" if node in forest else "out"
            self.assertEqual(self.at_once(status, 60, facts, (other, node)), "never")

    def test_places_among_many_fits(self):
        facts = [("out", 7), ("left", 30, 12), ("right", 30, 40), ("in", 50), ("right", 52, 54), ("left", 61, 59)]
        many = self.at_once(count_fits, 60, facts)
        self.assertGreater(many, 10 ** 20)
        places = [0, 1, many // 7, many // 2, many - 2, many - 1]
        forests = [self.at_once(fit_at, 60, facts, place) for place in places]
        for forest in forests:
            model = of_dump(forest.links().dump())
            self.assertTrue(all(is_true_by_definition(model, fact) for fact in facts))
        ranks = [rank(forest) for forest in forests]
        self.assertEqual(ranks, sorted(set(ranks)))
        for fact, right in ((("in", 59), "sure"), (("out", 50), "never"), (("in", 49), "open")):
            self.assertEqual(self.at_once(status, 60, facts, fact), right)

    def test_the_sum_over_all_links(self):
        facts = [("out", 30), ("in", 31)]
        links = [count_fits(60, facts + [("left", 30, link)]) for link in range(30)]
        self.assertEqual(sum(links), count_fits(60, facts))


class ErrorsTest(LinkCase):
    def calls(self, size, facts):
        yield count_fits, (size, facts)
        yield fit_at, (size, facts, -1)
        yield lambda *values: next(each_fit(*values)), (size, facts)
        yield status, (size, facts, ("odd",))

    def test_sizes(self):
        for size in (-1, 61):
            for function, values in self.calls(size, [("odd",)]):
                self.assert_error(BadSize(size), function, *values)

    def test_facts(self):
        facts = [("in", 1), ("out", 1), ("in", 4), ("odd",)]
        for function, values in self.calls(3, facts):
            self.assert_error(BadFact(2), function, *values)
        for function, values in self.calls(3, facts[::-1]):
            self.assert_error(BadFact(0), function, *values)

    def test_the_further_fact(self):
        for fact in (("in", 4), ("left", 5, 1), ("odd", 1), ("in",), ("left", 1)):
            self.assert_error(BadFact(0), status, 3, [], fact)
            self.assert_error(BadFact(2), status, 3, [("in", 1), ("in", 2)], fact)
            # That the further fact is none comes before that there is no fit.
            self.assert_error(BadFact(2), status, 3, [("in", 1), ("out", 1)], fact)
        self.assert_error(NoFit(3), status, 3, [("in", 1), ("out", 1)], ("in", 3))

    def test_a_generator_checks_when_its_first_member_is_asked_for(self):
        for size, facts in ((61, []), (3, [("odd",)])):
            forests = each_fit(size, facts)
            with self.assertRaises((BadSize, BadFact)):
                next(forests)
        self.assertEqual(next(each_fit(3, [])), Forest.of(Links(3)))


if __name__ == "__main__":
    unittest.main()
