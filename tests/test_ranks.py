"""The order of the checked standings: points 2, 3 and 36."""

import random
import unittest
from itertools import islice
from math import factorial

from latelink.errors import BadRank, BadSize
from latelink.forest import Forest
from latelink.ranks import count_forests, each_forest, forest_at, rank
from tests.helpers import LinkCase
from tests.model import of_dump
from tests.trees import checked_dumps, order_key, text_of

SIZES = (0, 1, 2, 3, 4, 5, 6)


def sorted_texts(size):
    models = [of_dump(dump) for dump in checked_dumps(size)]
    return [text_of(model) for model in sorted(models, key=order_key)]


class CountTest(LinkCase):
    def test_the_numbers(self):
        self.assertEqual([count_forests(size) for size in range(9)], [1, 2, 5, 14, 42, 132, 429, 1430, 4862])
        for size in range(61):
            number = factorial(2 * size + 2) // (factorial(size + 1) * factorial(size + 2))
            self.assert_told(number, count_forests, size)

    def test_bad_sizes(self):
        for size in (-1, 61, 1000):
            self.assert_error(BadSize(size), count_forests, size)
            self.assert_error(BadSize(size), forest_at, size, 0)
            self.assert_error(BadSize(size), forest_at, size, -1)


class RankTest(LinkCase):
    def test_examples(self):
        self.assert_told(5, count_forests, 2)
        self.assertEqual(str(forest_at(2, 3)), "(*(*))")
        self.assert_told(4, rank, Forest.after(2, [1, 2]))

    def test_size_3(self):
        self.assertEqual([str(forest_at(3, place)) for place in range(14)], sorted_texts(3))
        self.assertEqual(sorted_texts(3)[:7], ["...", "..(*)", ".(*).", ".(*(*))", ".((*)*)", "(*)..", "(*).(*)"])
        self.assertEqual(sorted_texts(3)[7:], ["(*(*)).", "((*)*).", "(*(*(*)))", "(*((*)*))", "((*)*(*))",
                                               "((*(*))*)", "(((*)*)*)"])

    def test_every_small_standing(self):
        for size in SIZES:
            for place, text in enumerate(sorted_texts(size)):
                forest = Forest.read(text)
                self.assert_told(place, rank, forest)
                self.assertEqual(self.told(forest_at, size, place), forest)
                self.assertIs(type(forest_at(size, place)), Forest)

    def test_the_first_and_the_last_rank(self):
        for size in (0, 1, 2, 5, 30, 59, 60):
            many = count_forests(size)
            self.assertEqual(self.at_once(forest_at, size, 0), Forest(size))
            self.assertEqual(self.at_once(rank, Forest(size)), 0)
            last = Forest.after(size, list(range(1, size + 1)))
            self.assertEqual(self.at_once(forest_at, size, many - 1), last)
            self.assertEqual(self.at_once(rank, last), many - 1)
            for place in (many, many + 1, -1, -many, 10 * many):
                self.assert_error(BadRank(place), forest_at, size, place)

    def test_size_60(self):
        dice = random.Random(36)
        places = sorted(dice.randrange(count_forests(60)) for _ in range(30))
        for place in places:
            forest = self.at_once(forest_at, 60, place)
            self.assertEqual(self.at_once(rank, forest), place)
        keys = [order_key(of_dump(forest_at(60, place).links().dump())) for place in places]
        self.assertEqual(keys, sorted(keys))
        for _ in range(30):
            forest = Forest.after(60, dice.sample(range(1, 61), dice.randint(0, 60)))
            self.assertEqual(forest_at(60, self.at_once(rank, forest)), forest)

    def test_neighbours(self):
        dice = random.Random(61)
        for _ in range(20):
            place = dice.randrange(count_forests(40) - 1)
            one, two = [of_dump(forest_at(40, there).links().dump()) for there in (place, place + 1)]
            self.assertLess(order_key(one), order_key(two))


class EachTest(LinkCase):
    def test_every_small_size(self):
        for size in SIZES:
            forests = list(each_forest(size))
            self.assertEqual([str(forest) for forest in forests], sorted_texts(size))
            self.assertTrue(all(type(forest) is Forest for forest in forests))

    def test_sizes_7_and_8(self):
        for size in (7, 8):
            forests = self.at_once(lambda many: list(each_forest(many)), size)
            self.assertEqual(len({str(forest) for forest in forests}), count_forests(size))
            self.assertEqual([rank(forest) for forest in forests], list(range(count_forests(size))))

    def test_it_goes_one_by_one(self):
        first = list(islice(each_forest(60), 3))
        self.assertEqual([str(forest) for forest in first], ["." * 60, "." * 59 + "(*)", "." * 58 + "(*)."])

    def test_bad_sizes(self):
        for size in (-1, 61):
            made = each_forest(size)
            with self.assertRaises(BadSize) as caught:
                next(made)
            self.assertEqual(caught.exception.size, size)


if __name__ == "__main__":
    unittest.main()
