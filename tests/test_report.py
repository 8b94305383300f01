"""The gap table: points 2 and 55."""

import unittest

from latelink.links import Links
from latelink.replay import replay
from latelink.report import gap_table
from tests.helpers import LinkCase
from tests.model import all_dumps, of_dump


def table_by_definition(model):
    rows = []
    for gap, state in enumerate(model.states()):
        rows.append(str(gap).rjust(3) + " " + state.ljust(6) + " " + str(model.right[gap]).rjust(3) + " "
                    + str(model.left[gap + 1]).rjust(3))
    return rows


class GapTableTest(LinkCase):
    def test_example(self):
        self.assert_told(["  0 joined   1   0", "  1 joined   2   1"], gap_table, Links(1))

    def test_each_state(self):
        rows = ["  0 joined   1   0", "  1 lost     3   0", "  2 right    4   2", "  3 left     4   2",
                "  4 joined   5   4"]
        self.assert_told(rows, gap_table, Links.read("1 3 4 4 5 | 0 0 2 2 4 | none"))

    def test_all_small_standings(self):
        for size in (0, 1, 2):
            for dump in all_dumps(size):
                self.assert_told(table_by_definition(of_dump(dump)), gap_table, Links.read(dump))

    def test_one_and_two_digits(self):
        links = replay(60, [-node for node in range(9, 60)])
        rows = gap_table(links)
        self.assertEqual(rows, table_by_definition(of_dump(links.dump())))
        self.assertEqual(rows[8:11], ["  8 right   60   8", "  9 left    10   8", " 10 left    11   8"])
        self.assertEqual((rows[0], rows[60]), ("  0 joined   1   0", " 60 joined  61  60"))
        self.assertEqual({len(row) for row in rows}, {18})

    def test_a_new_list(self):
        self.assert_new(gap_table, Links(2))


if __name__ == "__main__":
    unittest.main()
