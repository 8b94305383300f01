"""Standings: points 2 to 5 and 7 to 9."""

import unittest

from latelink.errors import BadDump, BadNode, BadOperation, BadSize, Illegal
from latelink.links import Links
from tests.helpers import LinkCase
from tests.model import after, all_dumps, legal_logs, of_dump, words

WHOLE_60 = words(range(1, 62)) + " | " + words(range(61)) + " | none"


def applied(size, log):
    links = Links(size)
    for operation in log:
        links.apply(operation)
    return links


class ListTest(LinkCase):
    """Point 4."""

    def test_sizes(self):
        self.assertEqual(Links.MOST, 60)
        for size in (0, 1, 2, 59, 60):
            links = Links(size)
            self.assertEqual((links.size, len(links)), (size, size))
        for size in (-1, 61, -61, 10 ** 9):
            self.assert_error(BadSize(size), Links, size)

    def test_the_whole_list(self):
        for size in (0, 1, 3, 60):
            links = Links(size)
            for gap in range(size + 1):
                self.assert_told(gap + 1, links.right, gap)
                self.assert_told(gap, links.left, gap + 1)
            self.assert_told([], links.outs)
            self.assert_told(True, links.is_whole)
            self.assert_told(True, links.is_sound)

    def test_the_head_has_no_left_link_and_the_tail_no_right_link(self):
        for size in (0, 3, 60):
            links = Links(size)
            for node in (-1, 0, size + 2, 99):
                self.assert_error(BadNode(node), links.left, node)
            for node in (-1, size + 1, size + 2, 99):
                self.assert_error(BadNode(node), links.right, node)

    def test_in_and_out(self):
        links = applied(3, [-1, -3])
        self.assertEqual([links.is_out(node) for node in range(5)], [False, True, False, True, False])
        self.assertEqual([node in links for node in range(-2, 7)],
                         [False, False, False, False, True, False, False, False, False])
        self.assert_told([1, 3], links.outs)
        for node in (-1, 5, 99, -3):
            self.assert_error(BadNode(node), links.is_out, node)
            self.assertIs(node in links, False)

    def test_size_0(self):
        links = Links(0)
        self.assertEqual((links.right(0), links.left(1), links.is_out(0), links.is_out(1)), (1, 0, False, False))
        self.assertEqual((0 in links, 1 in links), (False, False))
        self.assertEqual((list(links.walk()), list(links.walk_back())), ([], []))

    def test_size_60(self):
        links = Links(60)
        self.assertEqual((60 in links, 61 in links, 0 in links, links.is_out(61)), (True, False, False, False))
        links.apply(-60)
        self.assertEqual((60 in links, links.right(59), links.left(61)), (False, 61, 59))


class OperationTest(LinkCase):
    """Point 5."""

    def test_unlink_and_relink(self):
        links = Links(3)
        self.assertIsNone(links.apply(-2))
        self.assertEqual(links.dump(), "1 3 3 4 | 0 1 1 3 | 2")
        self.assertIsNone(links.apply(2))
        self.assertEqual(links.dump(), "1 2 3 4 | 0 1 2 3 | none")

    def test_the_neighbours_of_the_sentinels(self):
        links = Links(1)
        links.apply(-1)
        self.assertEqual(links.dump(), "2 2 | 0 0 | 1")

    def test_no_operation(self):
        for size, operation in ((3, 0), (3, 4), (3, -4), (0, 0), (0, 1), (0, -1), (60, 61), (60, -61)):
            links = Links(size)
            before = links.dump()
            self.assert_error(BadOperation(operation, 0), links.apply, operation)
            self.assertEqual(links.dump(), before)

    def test_illegal(self):
        links = applied(3, [-1])
        before = links.dump()
        for operation in (-1, 2, 3):
            self.assert_error(Illegal(operation, 0), links.apply, operation)
            self.assertEqual(links.dump(), before)

    def test_exactly_two_links_are_written_on_every_standing(self):
        for dump in all_dumps(2):
            for node in (1, 2):
                links, model = Links.read(dump), of_dump(dump)
                operation = node if node in model.out else -node
                low, high = model.left[node], model.right[node]
                worth = (high, low) if operation < 0 else (node, node)
                model.right[low], model.left[high] = worth
                model.out ^= {node}
                links.apply(operation)
                self.assertEqual(links.dump(), model.dump(), (dump, operation))

    def test_every_legal_log(self):
        for log in legal_logs(3, 6):
            self.assertEqual(applied(3, log).dump(), after(3, log).dump(), log)


class WalkTest(LinkCase):
    """Point 8."""

    def test_ordinary(self):
        links = applied(4, [-2])
        self.assertEqual((list(links.walk()), list(links.walk_back())), ([1, 3, 4], [4, 3, 1]))

    def test_a_walk_misses_nodes_that_are_in_and_visits_nodes_that_are_out(self):
        links = applied(3, [-1, -2, 1])
        self.assertEqual((list(links.walk()), list(links.walk_back())), ([1, 2, 3], [3]))
        self.assertTrue(links.is_out(2))
        self.assertTrue(1 in links)

    def test_walks_of_every_standing(self):
        for dump in all_dumps(2):
            model = of_dump(dump)
            forth, node = [], model.right[0]
            while node != 3:
                forth.append(node)
                node = model.right[node]
            back, node = [], model.left[3]
            while node != 0:
                back.append(node)
                node = model.left[node]
            links = Links.read(dump)
            self.assertEqual((list(links.walk()), list(links.walk_back())), (forth, back), dump)
            self.assertEqual(links.dump(), dump)

    def test_size_60(self):
        self.assertEqual(list(Links(60).walk()), list(range(1, 61)))
        self.assertEqual(list(Links(60).walk_back()), list(range(60, 0, -1)))

    def test_sound_and_whole(self):
        links = applied(3, [-1, -2, 1])
        self.assert_told(False, links.is_sound)
        self.assert_told(False, links.is_whole)
        links = applied(3, [-1, -2])
        self.assert_told(True, links.is_sound)
        self.assert_told(False, links.is_whole)

    def test_sound_and_whole_of_every_standing(self):
        for dump in all_dumps(2):
            links = Links.read(dump)
            self.assertIs(links.is_sound(), of_dump(dump).is_sound(), dump)
            self.assertIs(links.is_whole(), dump == "1 2 3 | 0 1 2 | none", dump)

    def test_all_nodes_in_is_not_whole(self):
        links = applied(3, [-1, -2, 1, -3, 2, 3])
        self.assertEqual((links.outs(), links.is_whole(), links.is_sound()), ([], False, False))


class DumpTest(LinkCase):
    """Point 9."""

    def test_dump(self):
        self.assertEqual(Links(2).dump(), "1 2 3 | 0 1 2 | none")
        self.assertEqual(Links(0).dump(), "1 | 0 | none")
        self.assertEqual(Links(60).dump(), WHOLE_60)
        self.assertEqual(applied(3, [-3, -1]).dump(), "2 2 4 4 | 0 0 2 2 | 1 3")

    def test_str_is_the_dump(self):
        for links in (Links(0), Links(2), applied(3, [-3, -1])):
            self.assertEqual(str(links), links.dump())

    def test_every_standing_is_read(self):
        for size in (0, 1, 2):
            for dump in all_dumps(size):
                links = self.told(Links.read, dump)
                self.assertIs(type(links), Links)
                model = of_dump(dump)
                self.assertEqual((links.dump(), links.size, links.outs()), (dump, size, sorted(model.out)))
                self.assertEqual([links.right(node) for node in range(size + 1)], list(model.right.values()))
                self.assertEqual([links.left(node) for node in range(1, size + 2)], list(model.left.values()))
        self.assertEqual(Links.read(WHOLE_60), Links(60))

    def test_example(self):
        self.assert_error(BadDump(2), Links.read, "1 2 3 | 0 1 2 | 2 1")

    def wrong(self, part, *texts):
        for text in texts:
            self.assert_error(BadDump(part), Links.read, text)

    def test_part_0(self):
        for part in ("", " ", "1 ", " 1", "1  2", "x", "1 x", "-1", "+1", "01", "1 02", "00", "0", "1 1", "2", "3 2",
                     "1 3", "1 2 4", "1.", "\u0661", "\u00b2", "1\n", "1,2", "1234567890", "1000000000 2",
                     "999999999", "none", "| 1", words(range(1, 63)), words(range(1, 100))):
            self.wrong(0, part, part + " | 0 | none", part + " | 0 1 | none", part + " | x | x | x")

    def test_part_1(self):
        for part in ("", " ", "0 1", "0", "0 1 2 3", "0 1 3", "0 2 2", "1 1 2", "0 01 2", "0 1 -2", "0 1 x", "0  1 2",
                     "0 1 2 ", " 0 1 2", "0 00 2", "0 1 \u0662", "none", "0 1 1234567890", "0 1 999999999"):
            self.wrong(1, "1 2 3 | " + part, "1 2 3 | " + part + " | none", "1 2 3 | " + part + " | 9 | x")

    def test_part_2(self):
        for part in ("", " ", "0", "3", "1 1", "2 1", "1 2 3", "01", "1 02", "-1", "x", "None", "none ", " none", "1 ",
                     " 1", "1  2", "0 1", "none 1", "1234567890", "\u0661", "1,2"):
            self.wrong(2, "1 2 3 | 0 1 2 | " + part, "1 2 3 | 0 1 2 | " + part + " | none")
        for outs in ("none", "1", "2", "1 2"):
            self.assertEqual(Links.read("1 2 3 | 0 1 2 | " + outs).dump(), "1 2 3 | 0 1 2 | " + outs)
        self.wrong(2, "1 | 0 | 0", "1 | 0 | 1")

    def test_missing_parts(self):
        self.wrong(0, "")
        self.wrong(1, "1 2 3", "1")
        self.wrong(2, "1 2 3 | 0 1 2", "1 | 0")

    def test_parts_too_many(self):
        self.wrong(3, "1 | 0 | none | none", "1 | 0 | none | ", "1 | 0 | none | x | y", "1 2 | 0 1 | 1 | 1")

    def test_wrong_bars(self):
        self.wrong(0, "1|0|none", "1 |0 |none", "1 |", "1  | 0 | none")
        self.wrong(1, "1 |  0 | none", "1 | 0|none", "1 | | 0 | none")
        self.wrong(2, "1 | 0 | none |", "1 | 0 |  none")


class EqualityTest(LinkCase):
    """The rest of the class: equality, copies, and what shares nothing."""

    def test_equality(self):
        self.assertTrue(applied(3, [-1, 1]) == Links(3))
        self.assertFalse(applied(3, [-1]) == Links(3))
        self.assertTrue(applied(3, [-1]) != Links(3))
        self.assertFalse(Links(2) == Links(3))
        for other in (Links(2).dump(), None, 2, [1, 2, 3], (), {}):
            self.assertFalse(Links(2) == other)
            self.assertTrue(Links(2) != other)

    def test_equality_is_that_of_the_dumps(self):
        dumps = list(all_dumps(2))[::3]
        standings = [Links.read(dump) for dump in dumps]
        for dump, links in zip(dumps, standings):
            equal = [there for there, other in zip(dumps, standings) if links == other]
            self.assertEqual(equal, [dump])

    def test_one_right_link_one_left_link_or_one_node_out_makes_a_difference(self):
        whole = "1 2 3 | 0 1 2 | none"
        for dump in ("1 3 3 | 0 1 2 | none", "1 2 3 | 0 0 2 | none", "1 2 3 | 0 1 2 | 2"):
            self.assertFalse(Links.read(dump) == Links.read(whole))

    def test_only_equal_standings_share_a_key(self):
        standings = [Links.read(dump) for size in (0, 1, 2) for dump in all_dumps(size)]
        self.assertEqual(len({links.key() for links in standings}), len(standings))
        self.assertEqual(applied(3, [-1, 1]).key(), Links(3).key())

    def test_a_copy_shares_nothing(self):
        for log in ([], [-1, -2, 1]):
            links = applied(3, log)
            before = links.dump()
            twin = links.copy()
            self.assertIsNot(twin, links)
            self.assertEqual((twin == links, twin.dump(), twin.size, type(twin)), (True, before, 3, Links))
            twin.apply(-3)
            self.assertEqual(links.dump(), before)
            links.apply(-3)
            links.apply(3)
            self.assertEqual(twin.dump(), applied(3, log + [-3]).dump())

    def test_lists_are_new(self):
        self.assert_new(applied(3, [-2]).outs)
        self.assert_new(Links(3).outs)

    def test_questions_change_nothing(self):
        links = applied(3, [-1, -2, 1])
        before = links.dump()
        links.is_sound(), links.is_whole(), links.outs(), links.dump(), str(links), len(links), 2 in links
        list(links.walk()), list(links.walk_back()), links.left(2), links.right(2), links.is_out(2), links == Links(3)
        self.assertEqual(links.dump(), before)


if __name__ == "__main__":
    unittest.main()
