"""Operations and logs without their links: points 3, 5, 6 and 10 to 14."""

import unittest
from itertools import combinations

from latelink.errors import BadOperation, BadRange, BadSize, BadText, Illegal
from latelink.links import Links
from latelink.ops import block_part, blocks, first_illegal, format_log, mirror, parse_log, squeeze, strikes
from latelink.replay import mirrored, play, replay
from tests.helpers import LinkCase
from tests.model import after, all_dumps, all_logs, is_legal, legal_logs, of_dump, signed

OF_SIZE_AND_LOG = (first_illegal, strikes, squeeze, mirror, blocks)
MANY = list(range(-60, 0)) + list(range(60, 0, -1))


class TextTest(LinkCase):
    """Point 10."""

    def test_example(self):
        self.assert_told([-3, 3], parse_log, "-3 +3")
        self.assert_error(BadText(1), parse_log, "-3  +3")

    def test_format(self):
        self.assert_told("-3 +3 -12", format_log, [-3, 3, -12])
        self.assert_told("+1", format_log, [1])
        self.assert_told("", format_log, [])

    def test_nodes_above_60(self):
        self.assert_told("-61 +100 -999999999", format_log, [-61, 100, -999999999])
        self.assert_told([-61, 100, -999999999], parse_log, "-61 +100 -999999999")

    def test_format_does_not_ask_for_a_legal_log(self):
        self.assert_told("+1 +1", format_log, [1, 1])
        self.assert_told([1, 1], parse_log, "+1 +1")

    def test_format_of_0(self):
        self.assert_error(BadOperation(0, 0), format_log, [0])
        self.assert_error(BadOperation(0, 2), format_log, [-1, 1, 0, 0])

    def test_parse_the_empty_text(self):
        self.assert_told([], parse_log, "")

    def test_parse_and_format_undo_each_other(self):
        for log in all_logs(3, 3):
            self.assertEqual(parse_log(format_log(log)), log)

    def test_digits(self):
        self.assert_told([123456789, -100000000], parse_log, "+123456789 -100000000")
        self.assert_told([10, 90], parse_log, "+10 +90")
        for word in ("+1234567890", "-1000000000", "+0", "-0", "+01", "-00", "1", "3+", "+", "-", "++1", "-+1", "+-1",
                     "+1.", "+1_0", "+a", "+1a", "a1", "+\u0661", "+\u00b2", "\u22121", "+1\n", "\n+1", "+1\t", "none"):
            self.assert_error(BadText(0), parse_log, word)
            self.assert_error(BadText(1), parse_log, "-7 " + word)

    def test_empty_words(self):
        self.assert_error(BadText(0), parse_log, " ")
        self.assert_error(BadText(0), parse_log, " -1")
        self.assert_error(BadText(1), parse_log, "-1 ")
        self.assert_error(BadText(2), parse_log, "-1 +1  x")

    def test_the_first_wrong_word_is_told(self):
        self.assert_error(BadText(1), parse_log, "-1 0 +2 x +0")


class CheckTest(LinkCase):
    """Points 3 to 6: what all functions of a size and a log check."""

    def test_sizes(self):
        for function in OF_SIZE_AND_LOG:
            for size in (-1, 61, 1000, -60):
                self.assert_error(BadSize(size), function, size, [])
                self.assert_error(BadSize(size), function, size, [0])
            for size in (0, 60):
                self.assertIn(function(size, []), ([], None))
        self.assert_error(BadSize(61), block_part, 61, [0], 2, 1)
        self.assert_error(BadSize(-1), block_part, -1, [], 1, 1)

    def test_operations(self):
        for function in OF_SIZE_AND_LOG:
            for size, operation in ((3, 0), (3, 4), (3, -4), (0, 1), (0, -1), (0, 0), (60, 61), (60, -61), (3, 999)):
                self.assert_error(BadOperation(operation, 0), function, size, [operation, 0])
            self.assert_error(BadOperation(9, 2), function, 3, [-1, 1, 9, 0])
            function(60, [-60, -1, 60, 1])

    def test_a_bad_operation_behind_the_answer(self):
        for function in (first_illegal, strikes):
            self.assert_error(BadOperation(0, 2), function, 3, [1, -1, 0, -9])
        self.assert_error(BadOperation(5, 3), mirror, 4, [1, 1, 1, 5])
        self.assert_error(BadOperation(5, 3), blocks, 4, [1, 1, 1, 5])
        self.assert_error(BadOperation(5, 3), block_part, 4, [1, 1, 1, 5], 1, 1)

    def test_squeeze_checks_one_operation_after_the_other(self):
        self.assert_error(Illegal(1, 0), squeeze, 3, [1, 0])
        self.assert_error(Illegal(-1, 1), squeeze, 3, [-1, -1, 9])
        self.assert_error(BadOperation(0, 1), squeeze, 3, [-1, 0, -1])
        self.assert_error(Illegal(2, 2), squeeze, 3, [-1, 1, 2])

    def test_what_does_not_ask_for_a_legal_log(self):
        self.assert_told([3, 3], mirror, 3, [1, 1])
        self.assert_told([(1, 1)], blocks, 3, [1, 1])
        self.assert_told([1, 1], block_part, 3, [1, 1], 1, 3)

    def test_lists_are_new(self):
        log = [-2, -1, 2]
        for function in (strikes, squeeze, mirror, blocks):
            self.assert_new(function, 3, log)
        self.assert_new(block_part, 3, log, 1, 3)
        self.assert_new(parse_log, "-1 +1")
        self.assert_new(parse_log, "")
        self.assertIsNot(squeeze(3, log), log)
        self.assertIsNot(block_part(3, log, 1, 3), log)


class StrikesTest(LinkCase):
    """Points 6 and 11."""

    def test_example(self):
        self.assert_told([1, 2], strikes, 3, [-1, -1, 2, 1, -2])

    def test_first_illegal(self):
        self.assert_told(1, first_illegal, 3, [-1, -1, 2, 1, -2])
        self.assert_told(0, first_illegal, 3, [3])
        self.assert_told(None, first_illegal, 3, [-1, -3, 1, 3, -1])
        self.assert_told(None, first_illegal, 60, MANY)
        self.assert_told(120, first_illegal, 60, MANY + [1])

    def test_first_illegal_of_all_logs(self):
        for log in all_logs(2, 5):
            wrong = [index for index in range(len(log)) if not is_legal(2, log[:index + 1])]
            self.assertEqual(first_illegal(2, log), wrong[0] if wrong else None, log)

    def test_nothing_to_strike(self):
        self.assert_told([], strikes, 0, [])
        self.assert_told([], strikes, 60, MANY)

    def test_strikes_of_all_logs(self):
        for log in all_logs(2, 5):
            struck = strikes(2, log)
            rest = []
            for index, operation in enumerate(log):
                if is_legal(2, rest + [operation]):
                    self.assertNotIn(index, struck)
                    rest.append(operation)
                else:
                    self.assertIn(index, struck)
            self.assertEqual(struck, sorted(set(struck)))

    def test_no_other_choice_strikes_fewer(self):
        for log in all_logs(2, 4):
            fewer = len(strikes(2, log)) - 1
            if fewer >= 0:
                choices = combinations(log, len(log) - fewer)
                self.assertFalse(any(is_legal(2, list(choice)) for choice in choices), log)


class SqueezeTest(LinkCase):
    """Point 12."""

    def test_example(self):
        self.assert_told([-1, -2, 2], squeeze, 3, [-1, 1, -1, -2, 2])

    def test_runs(self):
        self.assert_told([], squeeze, 3, [])
        self.assert_told([-1], squeeze, 3, [-1])
        self.assert_told([-1, 1], squeeze, 3, [-1, 1])
        self.assert_told([-1], squeeze, 3, [-1, 1, -1])
        self.assert_told([-1, 1], squeeze, 3, [-1, 1, -1, 1])
        self.assert_told([-1, -2, 1], squeeze, 3, [-1, -2, 1])
        self.assert_told([-1, -2, 2, 1, -1, -60], squeeze, 60, [-1, -2, 2, -2, 2, 1, -1, -60])

    def test_the_squeezed_log_from_every_standing(self):
        for dump in all_dumps(2):
            links = Links.read(dump)
            for length in range(5):
                for nodes in ([1] * length, [1] * length + [2], [1, 2] + [1] * length, [2] * length + [1] * length):
                    log = signed(nodes, out=of_dump(dump).out)
                    if is_legal(2, log):
                        self.assertEqual(play(links, squeeze(2, log)), play(links, log), (dump, log))

    def test_no_run_of_more_than_two_is_left(self):
        for log in legal_logs(3, 6):
            squeezed = squeeze(3, log)
            self.assertTrue(is_legal(3, squeezed))
            self.assertEqual(replay(3, squeezed).dump(), after(3, log).dump(), log)
            for index in range(len(squeezed) - 2):
                self.assertGreater(len({abs(operation) for operation in squeezed[index:index + 3]}), 1)


class MirrorTest(LinkCase):
    """Point 13, for logs."""

    def test_ordinary(self):
        self.assert_told([-3, 3, 1, -2], mirror, 3, [-1, 1, 3, -2])
        self.assert_told([-60, 1], mirror, 60, [-1, 60])
        self.assert_told([], mirror, 0, [])

    def test_twice_is_nothing(self):
        for log in all_logs(3, 3):
            self.assertEqual(mirror(3, mirror(3, log)), log)

    def test_the_mirrored_log_leads_to_the_mirrored_standing(self):
        for log in legal_logs(3, 5):
            self.assertEqual(replay(3, mirror(3, log)), mirrored(replay(3, log)), log)


class BlocksTest(LinkCase):
    """Point 14."""

    def test_example(self):
        self.assert_told([(1, 2), (5, 5)], blocks, 6, [-2, -5, -1, 5])

    def test_edges(self):
        self.assert_told([], blocks, 0, [])
        self.assert_told([], blocks, 60, [])
        self.assert_told([(1, 1)], blocks, 1, [-1, 1])
        self.assert_told([(1, 60)], blocks, 60, MANY)
        self.assert_told([(1, 1), (60, 60)], blocks, 60, [-60, -1])
        self.assert_told([(1, 3)], blocks, 3, [-3, -1, -2])
        self.assert_told([(1, 1), (3, 3), (5, 6)], blocks, 6, [6, 1, 5, 3])

    def test_parts(self):
        log = [-2, -5, -1, 5]
        self.assert_told([-2, -1], block_part, 6, log, 1, 2)
        self.assert_told([-1, 1], block_part, 6, log, 5, 5)
        self.assert_told([], block_part, 6, log, 3, 4)
        self.assert_told([-1, -4, 4], block_part, 6, log, 2, 6)
        self.assert_told(log, block_part, 6, log, 1, 6)
        self.assert_told([-1], block_part, 60, [-60], 60, 60)

    def test_ranges(self):
        for low, high in ((0, 1), (2, 1), (1, 7), (7, 7), (-1, 3), (0, 0), (3, 2)):
            self.assert_error(BadRange(low, high), block_part, 6, [-2], low, high)
            self.assert_error(BadOperation(0, 1), block_part, 6, [-2, 0], low, high)
        self.assert_error(BadRange(1, 0), block_part, 0, [], 1, 0)
        self.assert_error(BadRange(1, 1), block_part, 0, [], 1, 1)

    def test_what_does_not_act_separates_the_list(self):
        for log in legal_logs(5, 4):
            links = replay(5, log)
            rights = list(range(1, 7))
            lefts = list(range(6))
            for low, high in blocks(5, log):
                part = after(high - low + 1, block_part(5, log, low, high))
                for node in range(part.size + 1):
                    rights[low - 1 + node] = part.right[node] + low - 1
                    lefts[low - 1 + node] = part.left[node + 1] + low - 1
            self.assertEqual([links.right(node) for node in range(6)], rights, log)
            self.assertEqual([links.left(node) for node in range(1, 7)], lefts, log)


if __name__ == "__main__":
    unittest.main()
