"""Checked standings: points 2, 3 and 32 to 35."""

import random
import unittest
from itertools import permutations, product

from latelink.debts import debt_of
from latelink.errors import BadNode, BadRemoval, BadSize, BadText, Illegal, NotChecked, Refused
from latelink.forest import Forest
from latelink.links import Links
from latelink.modes import admitted, admits, replay_in
from latelink.repairs import is_least_repair
from latelink.replay import play, replay
from tests.helpers import LinkCase, made
from tests.model import MODES, all_dumps, of_dump, reached
from tests.trees import checked_dumps, is_checked, parents_of, text_of, valid_texts

SIZES = (0, 1, 2, 3, 4, 5)
METHODS = """__init__ read of after __len__ __contains__ __str__ __eq__ links tops parent chain below unlinked relinked
    ways_back""".split()


def each_forest_of(*sizes):
    """Each checked standing of the sizes, as a forest and as a model."""
    for size in sizes or SIZES:
        for dump, log in checked_dumps(size).items():
            yield Forest.of(replay(size, log)), of_dump(dump)


class ClassTest(LinkCase):
    def test_example(self):
        forest = Forest.after(3, [1, 3, 2])
        self.assertEqual(str(forest), "((*)*(*))")
        self.assert_told([2], forest.tops)
        self.assert_told(2, forest.parent, 3)
        self.assert_told([1, 3], forest.below, 2)
        self.assert_told(2, forest.ways_back)
        self.assert_error(BadText(3), Forest.read, "(*)(*)")

    def test_the_methods_are_defined_in_the_class(self):
        for name in METHODS:
            self.assertIn(name, vars(Forest))
        self.assertIsInstance(vars(Forest)["read"], staticmethod)
        self.assertIsInstance(vars(Forest)["of"], staticmethod)
        self.assertIsInstance(vars(Forest)["after"], classmethod)

    def test_the_whole_list(self):
        for size in (0, 1, 2, 59, 60):
            for forest in (Forest(size), Forest.after(size, []), Forest.read("." * size), Forest.of(Links(size))):
                self.assertEqual((forest.size, len(forest), str(forest)), (size, 0, "." * size))
                self.assert_told([], forest.tops)
                self.assert_told(1, forest.ways_back)
                self.assertEqual(forest.links(), Links(size))
                self.assertTrue(forest == Forest(size))

    def test_bad_sizes(self):
        for size in (-1, 61, 1000):
            self.assert_error(BadSize(size), Forest, size)
            self.assert_error(BadSize(size), Forest.after, size, [])
            self.assert_error(BadSize(size), Forest.after, size, [0])

    def test_size_60(self):
        up, down = list(range(1, 61)), list(range(60, 0, -1))
        for removal in (up, down, up[::2] + up[1::2], random.Random(6).sample(up, 60)):
            forest = self.at_once(Forest.after, 60, removal)
            self.assertEqual(len(forest), 60)
            self.assertEqual(self.at_once(Forest.read, str(forest)), forest)
            self.assertEqual(self.at_once(Forest.of, forest.links()), forest)
            self.assertEqual(forest.links(), replay(60, [-node for node in removal]))
            self.assertEqual(forest.tops(), removal[-1:])
            self.assertEqual(self.at_once(forest.chain, removal[0])[-1], removal[-1])
            self.assertEqual(forest.below(removal[-1]), [node for node in up if node != removal[-1]])
            self.at_once(forest.ways_back)
        self.assertEqual(Forest.after(60, up).ways_back(), 1)
        self.assertEqual(Forest.after(60, up).chain(1), up[1:])
        self.assertEqual(Forest.after(60, up).parent(59), 60)
        self.assertEqual(str(Forest.after(60, down)), "(*" * 60 + ")" * 60)

    def test_nodes_that_are_out(self):
        for forest, model in each_forest_of(0, 1, 2, 3, 4):
            inside = [node for node in range(-3, forest.size + 4) if node in forest]
            self.assertEqual(inside, sorted(model.out))
            self.assertEqual(len(forest), len(model.out))
            self.assertIs(99 in forest, False)

    def test_equality(self):
        self.assertTrue(Forest.after(3, [1, 3]) == Forest.after(3, [3, 1]))
        self.assertFalse(Forest.after(3, [1, 2]) == Forest.after(3, [2, 1]))
        self.assertTrue(Forest.after(3, [1, 2]) != Forest.after(3, [2, 1]))
        self.assertFalse(Forest(2) == Forest(3))
        for other in (None, 2, "..", Links(2), [], (), {}):
            self.assertFalse(Forest(2) == other)
            self.assertTrue(Forest(2) != other)
        forests = [forest for forest, _ in each_forest_of(2, 3)]
        for one, two in product(forests, repeat=2):
            self.assertIs(one == two, str(one) == str(two))


class FormTest(LinkCase):
    """Point 32: which standings are checked ones."""

    def test_after(self):
        for size in (1, 2, 3, 4):
            for many in range(size + 1):
                for removal in permutations(range(1, size + 1), many):
                    links = replay_in(size, [-node for node in removal], mode="checked")
                    forest = self.told(Forest.after, size, list(removal))
                    self.assertEqual(forest.links(), links)
                    self.assertEqual(forest, Forest.of(links))

    def test_the_last_one_unlinked_is_the_root(self):
        for removal in permutations(range(1, 5)):
            self.assert_told([removal[-1]], Forest.after(4, list(removal)).tops)

    def test_bad_removals(self):
        for removal, index in (([0], 0), ([4], 0), ([-1], 0), ([1, 1], 1), ([1, 2, 1, 9], 2), ([1, 9, 1], 1),
                               ([1, 2, 3, 3], 3), ([3, 61], 1)):
            self.assert_error(BadRemoval(index), Forest.after, 3, removal)
        self.assert_error(BadRemoval(0), Forest.after, 0, [1])
        self.assert_error(BadRemoval(60), Forest.after, 60, list(range(1, 62)))

    def test_of_every_small_standing(self):
        for size in (0, 1, 2, 3):
            for dump in all_dumps(size):
                links = Links.read(dump)
                self.assertEqual(dump in checked_dumps(size), is_checked(of_dump(dump)), dump)
                if dump in checked_dumps(size):
                    self.assertEqual(self.told(Forest.of, links).links(), links)
                else:
                    self.assert_error(NotChecked(dump), Forest.of, links)

    def test_of_reached_standings(self):
        for dump in list(reached(4, 7))[::2] + list(checked_dumps(5)):
            links = Links.read(dump)
            if is_checked(of_dump(dump)):
                self.assertEqual(Forest.of(links).links(), links)
            else:
                self.assert_error(NotChecked(dump), Forest.of, links)

    def test_of_long_standings(self):
        links = replay(60, [-30, -20, -40])
        self.assertEqual(Forest.of(links).links(), links)
        for wrong in (made(60, {7: 60}, {}), made(60, {}, {60: 0}), made(60, {}, {}, 30), made(60, {29: 31}, {}, 30),
                      replay(60, [-1, -2, 1])):
            self.assert_error(NotChecked(wrong.dump()), Forest.of, wrong)

    def test_links_are_new(self):
        for forest in (Forest(3), Forest.after(3, [1, 2])):
            text = str(forest)
            links = forest.links()
            links.apply(-3)
            self.assertEqual(str(forest), text)
            self.assertNotEqual(forest.links(), links)
        links = replay(3, [-1])
        forest = Forest.of(links)
        links.apply(-2)
        self.assertEqual(str(forest), "(*)..")
        removal = [1, 2]
        forest = Forest.after(3, removal)
        removal.append(3)
        self.assertEqual(str(forest), "((*)*).")


class TreeTest(LinkCase):
    """Point 33."""

    def test_tops_parents_chains_and_subtrees(self):
        for forest, model in each_forest_of():
            parents = parents_of(model)
            self.assert_told([node for node in sorted(parents) if parents[node] == 0], forest.tops)
            for node in parents:
                chain = [parents[node]]
                while chain[-1] != 0:
                    chain.append(parents[chain[-1]])
                self.assert_told(parents[node], forest.parent, node)
                self.assert_told(chain[:-1], forest.chain, node)
            for node in parents:
                below = [other for other in sorted(parents) if node in forest.chain(other)]
                self.assert_told(below, forest.below, node)
                self.assertEqual(model.right[node] - model.left[node] - 2, len(below))

    def test_operations(self):
        for forest, model in each_forest_of():
            text, links = str(forest), forest.links()
            for operation in model.legal():
                node = abs(operation)
                if admits(links, operation, mode="checked"):
                    later = self.told(forest.relinked if operation > 0 else forest.unlinked, node)
                    self.assertIs(type(later), Forest)
                    self.assertEqual(later.links(), play(links, [operation]))
                else:
                    self.assertGreater(operation, 0)
                    self.assert_error(Refused(node, 0, "checked"), forest.relinked, node)
                if operation > 0:
                    self.assert_error(Illegal(-node, 0), forest.unlinked, node)
                else:
                    self.assert_error(Illegal(node, 0), forest.relinked, node)
            self.assertEqual(str(forest), text)
            free = [-node for node in range(1, forest.size + 1) if node not in forest] + forest.tops()
            self.assertEqual(sorted(free, key=abs), admitted(links, mode="checked"))

    def test_an_unlink_makes_a_root_over_the_two_trees_beside_it(self):
        forest = Forest.read("(*).((*)*).")
        self.assertEqual(str(forest.unlinked(2)), "((*)*((*)*)).")
        self.assertEqual(str(forest.unlinked(2).relinked(2)), "(*).((*)*).")
        self.assertEqual(str(forest.unlinked(5)), "(*).(((*)*)*)")
        self.assertEqual(str(forest.relinked(4)), "(*).(*)..")
        self.assert_error(Refused(3, 0, "checked"), forest.relinked, 3)

    def test_nodes_that_are_no_nodes(self):
        for size in (0, 3, 60):
            forest = Forest.after(size, [1, 3] if size else [])
            for node in (0, -1, size + 1, 99, -3):
                for function in (forest.parent, forest.chain, forest.below, forest.unlinked, forest.relinked):
                    self.assert_error(BadNode(node), function, node)

    def test_nodes_that_are_in(self):
        forest = Forest.after(3, [1, 3])
        for function in (forest.parent, forest.chain, forest.below):
            self.assert_error(BadNode(2), function, 2)
        self.assert_error(Illegal(2, 0), forest.relinked, 2)
        self.assert_error(Illegal(-3, 0), forest.unlinked, 3)

    def test_lists_are_new(self):
        forest = Forest.after(5, [1, 2, 3, 5])
        for function, more in ((forest.tops, ()), (forest.chain, (1,)), (forest.below, (3,)), (forest.chain, (3,))):
            self.assert_new(function, *more)
        self.assertEqual(str(forest), "(((*)*)*).(*)")


class WaysBackTest(LinkCase):
    """Point 34."""

    def test_every_order(self):
        for forest, model in each_forest_of(0, 1, 2, 3, 4):
            links, ways = forest.links(), 0
            for order in permutations(sorted(model.out)):
                here, refused = links, False
                for node in order:
                    refused = refused or not admits(here, node, mode="checked")
                    here = play(here, [node])
                if not refused:
                    ways += 1
                    self.assertTrue(is_least_repair(links, list(order)))
            self.assert_told(ways, forest.ways_back)
            self.assertEqual(debt_of(links), len(forest))

    def test_numbers(self):
        self.assert_told(1, Forest.after(5, [1, 2, 3, 4, 5]).ways_back)
        self.assert_told(24, Forest.after(60, [10, 20, 30, 40]).ways_back)
        self.assert_told(8, Forest.after(5, [1, 3, 2, 5, 4]).ways_back)
        self.assert_told(80, Forest.after(7, [1, 3, 5, 7, 2, 6]).ways_back)


class TextTest(LinkCase):
    """Point 35."""

    def test_examples(self):
        self.assertEqual(str(Forest(2)), "..")
        self.assertEqual(str(Forest.after(2, [1, 2])), "((*)*)")
        self.assertEqual(str(Forest.after(3, [3, 1, 2])), "((*)*(*))")

    def test_every_small_forest(self):
        for forest, model in each_forest_of():
            self.assertEqual(str(forest), text_of(model))
            self.assertEqual(self.told(Forest.read, text_of(model)), forest)
        for size in SIZES:
            self.assertEqual(sorted(valid_texts(size)), sorted(str(forest) for forest, _ in each_forest_of(size)))

    def test_every_short_text(self):
        # Each prefix of at most six letters with which some valid text begins is the beginning of one of at most
        # seven nodes.
        valid = {text for size in range(8) for text in valid_texts(size)}
        begun = {text[:length] for text in valid for length in range(7)}
        for length in range(7):
            for letters in product(".(*)", repeat=length):
                text = "".join(letters)
                if text in valid:
                    self.assertEqual(str(Forest.read(text)), text)
                else:
                    place = max(many for many in range(length + 1) if text[:many] in begun)
                    self.assert_error(BadText(place), Forest.read, text)

    def test_other_letters(self):
        for text, place in (("x", 0), (" ", 0), (". .", 1), ("(*) ", 3), ("(x)", 1), ("(* )", 2), (".\n", 1), ("-", 0),
                            ("(*).(", 5), ("[*]", 0), ("..()", 3), ("\u2217", 0), ("0", 0), ("(*)\u3002", 3)):
            self.assert_error(BadText(place), Forest.read, text)

    def test_texts_that_break_off(self):
        for text in ("(", "(*", "((", "((*", "((*)", "((*)*", "(*(", "(*(*)", ".(", "..(*", "(*).(", "(" * 200,
                     "(*" * 100, "." * 70 + "(", "(" * 5 + "*" + ")*" * 3):
            self.assert_error(BadText(len(text)), Forest.read, text)

    def test_texts_that_go_on(self):
        for text, place in (("(*)(", 3), ("(*)*", 3), ("(*))", 3), ("*", 0), (")", 0), (".)", 1), ("()", 1),
                            ("(*(*)(", 5), ("(**)", 2), ("(*.)", 2), ("(.*)", 1), ("((*)(*)*)", 4), ("((*))", 4),
                            ("." * 80 + "*", 80), ("((*)*).(*)(*)", 10), ("(*" * 70 + ")" * 71, 210)):
            self.assert_error(BadText(place), Forest.read, text)

    def test_more_than_60_nodes(self):
        for text, size in (("." * 61, 61), ("(*" * 61 + ")" * 61, 61), ("." * 60 + "(*)", 61), ("(*)." * 31, 62),
                           ("(" * 3000 + "*)" * 3000, 3000), ("." * 1000, 1000)):
            self.assert_error(BadSize(size), Forest.read, text)
        self.assertEqual(Forest.read("." * 60), Forest(60))
        self.assertEqual(len(Forest.read("(*)." * 30)), 30)

    def test_the_modes_do_not_matter(self):
        for mode in MODES:
            self.assertEqual(str(Forest.of(replay_in(4, [-2, -1, -4], mode=mode))), "(*(*)).(*)")


if __name__ == "__main__":
    unittest.main()
