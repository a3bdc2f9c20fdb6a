import unittest

from readgrove.errors import Endless, NoReading
from readgrove.groves import grove, grove_count, ring, tree_numbered
from readgrove.trees import is_reading
from tests.samples import TALK
from tests.trials import (
    BRACKETS, EMPTY_TWICE, EVEN, NOTHING, ONE_RING, THREE_RING, TWO_RING, all_grammars, brackets, fourfold, has_ring,
    parts_of_way, reads, rows_for, slow_grove, slow_trees, top_of,
)

RINGED = [(ONE_RING, ["a"]), (TWO_RING, ["a"]), (TWO_RING, ["b", "a"]), (EMPTY_TWICE, []), (EMPTY_TWICE, ["a"]),
          (THREE_RING, ["b"])]


class Groves(unittest.TestCase):
    """[15]"""

    def test_by_hand(self):
        self.assertEqual(grove(BRACKETS, ["a", "a", "a"]), [
            (("S", 0, 1), [(1, (0, 1))]),
            (("S", 0, 2), [(0, (0, 1, 2))]),
            (("S", 0, 3), [(0, (0, 1, 3)), (0, (0, 2, 3))]),
            (("S", 1, 2), [(1, (1, 2))]),
            (("S", 1, 3), [(0, (1, 2, 3))]),
            (("S", 2, 3), [(1, (2, 3))]),
        ])
        self.assertEqual(grove(EVEN, ["a", "a"]), [(("S", 0, 2), [(1, (0, 1, 1, 2))]), (("S", 1, 1), [(0, (1,))])])
        self.assertEqual(grove([("S", (), 4)], []), [(("S", 0, 0), [(0, (0,))])])

    def test_facts_that_stand_in_no_reading_are_not_there(self):
        told = grove(TALK, ["the", "dog"])
        self.assertEqual([fact for fact, ways in told], [("NP", 0, 2), ("N_1", 1, 2), ("S", 0, 2), ("VP", 2, 2)])

    def test_no_reading(self):
        self.assertEqual(grove(NOTHING, ["a"]), [])
        self.assertEqual(grove(EVEN, ["a"]), [])
        self.assertEqual(grove(BRACKETS, []), [])

    def test_rules_alike_are_ways_each(self):
        grammar = [("S", ("a",), 1), ("S", ("a",), 1), ("S", ("a",), 2)]
        self.assertEqual(grove(grammar, ["a"]), [(("S", 0, 1), [(0, (0, 1)), (1, (0, 1)), (2, (0, 1))])])
        self.assertEqual(grove_count(grammar, ["a"]), 3)

    def test_trial(self):
        for grammar in all_grammars():
            for row in rows_for(grammar, 5, 4):
                with self.subTest(grammar=grammar, row=row):
                    self.assertEqual(grove(grammar, row), slow_grove(grammar, row))


class Rings(unittest.TestCase):
    """[16]"""

    def is_ring(self, grammar, told, found):
        ways = dict(told)
        self.assertGreater(len(found), 0)
        for fact, after in zip(found, found[1:] + found[:1]):
            self.assertIn(after, [part for way in ways[fact] for part in parts_of_way(grammar, way)])

    def test_trial(self):
        seen = {True: 0, False: 0}
        for grammar in all_grammars():
            for row in rows_for(grammar, 5, 4):
                told = grove(grammar, row)
                found = ring(grammar, told)
                there = has_ring(grammar, told)
                seen[there] += 1
                self.assertEqual(found is not None, there)
                self.assertEqual(grove_count(grammar, row) is None, there)
                if there:
                    self.is_ring(grammar, told, found)
        self.assertGreater(min(seen.values()), 50)

    def test_rings_of_one_and_of_several(self):
        self.assertEqual(ring(ONE_RING, grove(ONE_RING, ["a"])), [("S", 0, 1)])
        two = ring(TWO_RING, grove(TWO_RING, ["a"]))
        self.assertEqual(sorted(two), [("A", 0, 1), ("S", 0, 1)])
        three = ring(THREE_RING, grove(THREE_RING, ["b"]))
        self.assertEqual(sorted(three), [("A", 0, 1), ("B", 0, 1), ("S", 0, 1)])
        for grammar, row in RINGED:
            told = grove(grammar, row)
            self.is_ring(grammar, told, ring(grammar, told))

    def test_no_ring(self):
        self.assertIsNone(ring(BRACKETS, grove(BRACKETS, ["a"] * 5)))
        self.assertIsNone(ring(BRACKETS, []))
        self.assertIsNone(ring(ONE_RING, []))

    def test_ring_that_stands_in_no_reading(self):
        grammar = [("S", ("a",), 0), ("A", ("A",), 0), ("A", ("a",), 0)]
        self.assertIsNone(ring(grammar, grove(grammar, ["a"])))
        self.assertEqual(grove_count(grammar, ["a"]), 1)


class Counts(unittest.TestCase):
    """[16], [17]"""

    def test_brackets_two_by_two(self):
        for size in range(17):
            self.assertEqual(grove_count(BRACKETS, ["a"] * size), 0 if size == 0 else brackets(size))
        self.assertEqual(brackets(16), 9694845)

    def test_very_great_counts(self):
        grammar = [("S", ("S", "S"), k) for k in range(30)] + [("S", ("a",), k) for k in range(10)]
        self.assertEqual(grove_count(grammar, ["a"] * 16), brackets(16) * 30 ** 15 * 10 ** 16)
        tree = tree_numbered(grammar, ["a"] * 16, brackets(16) * 30 ** 15 * 10 ** 16 - 1)
        self.assertTrue(is_reading(grammar, ["a"] * 16, tree))
        self.assertEqual(tree[0], 29)

    def test_no_reading(self):
        for grammar, row in ((NOTHING, ["a"]), (EVEN, ["a"]), (BRACKETS, []), (ONE_RING, ["b"]), (ONE_RING, [])):
            self.assertEqual(grove_count(grammar, row), 0)
            for number in (-1, 0, 1, 10 ** 59):
                with self.assertRaises(NoReading):
                    tree_numbered(grammar, row, number)

    def test_endless_goes_ahead(self):
        for grammar, row in RINGED:
            self.assertIsNone(grove_count(grammar, row))
            for number in (-1, 0, 1, 5, 10 ** 59, -10 ** 59):
                with self.assertRaises(Endless):
                    tree_numbered(grammar, row, number)

    def test_order_by_hand(self):
        grammar = [("S", ("A", "A"), 0), ("A", ("a",), 0), ("A", ("a",), 1), ("S", ("a", "A"), 0), ("A", ("A", "A"), 0)]
        one, two = (1, ("a",)), (2, ("a",))
        told = [(0, (one, one)), (0, (one, two)), (0, (two, one)), (0, (two, two)), (3, ("a", one)), (3, ("a", two))]
        self.assertEqual([tree_numbered(grammar, ["a", "a"], number) for number in range(6)], told)
        self.assertEqual(grove_count(grammar, ["a", "a"]), 6)

    def test_every_number(self):
        seen = 0
        for grammar in all_grammars():
            for row in rows_for(grammar, 4, 4):
                told = slow_grove(grammar, row)
                if has_ring(grammar, told):
                    continue
                trees = slow_trees(grammar, top_of(grammar, row), dict(told)) if told else []
                count = grove_count(grammar, row)
                self.assertEqual(count, len(trees))
                self.assertIs(type(count), int)
                self.assertEqual(count > 0, reads(grammar, row))
                for number, tree in enumerate(trees[:20]):
                    seen += 1
                    self.assertEqual(tree_numbered(grammar, row, number), tree)
                    self.assertTrue(is_reading(grammar, row, tree))
                self.assertEqual(len(set(trees)), len(trees))
                for number in (-1, count, count + 1, 10 ** 59, -10 ** 59):
                    with self.assertRaises(NoReading):
                        tree_numbered(grammar, row, number)
        self.assertGreater(seen, 200)

    def test_last_number(self):
        count = brackets(12)
        last = tree_numbered(BRACKETS, ["a"] * 12, count - 1)
        self.assertEqual(last[1][1], (1, ("a",)))
        self.assertTrue(is_reading(BRACKETS, ["a"] * 12, last))
        with self.assertRaises(NoReading):
            tree_numbered(BRACKETS, ["a"] * 12, count)

    def test_much_the_same_tree_within_one(self):
        own = "SABCDEFGHIJK"
        grammar = [(name, (below,) * 4, 0) for name, below in zip(own, own[1:])] + [("K", (), 0)]
        self.assertEqual(grove_count(grammar, []), 1)
        tree = tree_numbered(grammar, [], 0)
        for number in range(12):
            self.assertEqual(tree[0], number)
            tree = tree[1][3] if tree[1] else tree

    def test_numbers_of_more_figures_than_python_writes(self):
        grammar = fourfold("ABCDEFGH", 2)
        count = grove_count(grammar, [])
        self.assertTrue(count == 2 ** 4 ** 7)
        for number in (count, count + 1, count * count, -1, -count):
            with self.assertRaises(NoReading):
                tree_numbered(grammar, [], number)
            with self.assertRaises(NoReading):
                tree_numbered(grammar, ["a"], number)
            with self.assertRaises(Endless):
                tree_numbered(ONE_RING, ["a"], number)

    def test_great_numbers_tell_their_trees(self):
        grammar = fourfold("ABCDEFGH", 3)
        count = grove_count(grammar, [])
        last = 3 ** 4 ** 6
        self.assertTrue(count == last ** 4)
        for number in (0, 5, last - 1, last, count // 2, 7 ** 10000 % count, count - 2, count - 1):
            tree = tree_numbered(grammar, [], number)
            self.assertTrue(self.number_of(tree, 8) == number)
            self.assertTrue(is_reading(grammar, [], tree))

    # By the rules without parts at the ends, the last one going fastest.
    def number_of(self, tree, levels):
        if levels == 1:
            return tree[0] - 7
        number = 0
        for child in tree[1]:
            number = number * 3 ** 4 ** (levels - 2) + self.number_of(child, levels - 1)
        return number


if __name__ == "__main__":
    unittest.main()
