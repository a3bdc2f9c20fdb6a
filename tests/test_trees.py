import copy
import unittest

from readgrove.grammars import grammar_of, names
from readgrove.trees import depth, is_reading, knots, right_tree, row_of, tree_cost
from tests.samples import (
    BULK, CAT, DOG, DOG_SEES_CAT, NEST, PAIRS, TALK, balanced, changed_trees, grown_trees, nested,
    plain_cost, plain_depth, plain_knots, plain_right, plain_row,
)

SEEN = ["the", "dog", "sees", "the", "cat"]
BULKY = (1, (balanced(1000),))


class Measures(unittest.TestCase):
    """[7]: row, cost, knots and depth."""

    def measured(self, grammar, tree, row, cost, count, deep):
        # Not assertEqual: telling how two rows of thousands of words differ would take it hours.
        self.assertTrue(row_of(tree) == row, "the row of the tree")
        self.assertEqual(tree_cost(grammar, tree), cost)
        self.assertEqual(knots(tree), count)
        self.assertEqual(depth(tree), deep)

    def test_one_knot(self):
        self.measured(TALK, (2, ("dog",)), ["dog"], 3, 1, 1)
        self.measured(NEST, (6, ("c", "d")), ["c", "d"], 9, 1, 1)

    def test_one_knot_without_words(self):
        self.measured(NEST, (1, ()), [], 0, 1, 1)
        self.measured(TALK, (6, ()), [], 13, 1, 1)

    def test_many_knots_without_words(self):
        self.measured(NEST, (2, ((1, ()), (5, ((1, ()),)))), [], 10 ** 59 + 8, 4, 3)

    def test_words_and_trees_mixed(self):
        self.measured(TALK, DOG_SEES_CAT, SEEN, 1 + 2 + 3 + 5 + 2 + 11, 6, 4)
        self.measured(TALK, (4, (DOG, "and", CAT)), ["the", "dog", "and", "the", "cat"], 7 + 5 + 13, 5, 3)
        self.measured(TALK, (8, ((2, ("dog",)), (5, ("cat",)), "dog", "cat")), ["dog", "cat", "dog", "cat"], 33, 3, 2)
        self.measured(NEST, (0, ("a", (0, ("a", (3, ("c",)), "b")), "b")), ["a", "a", "c", "b", "b"], 6, 3, 3)

    def test_depth_by_whichever_child_is_deeper(self):
        low, high = (1, ()), (5, ((5, ((1, ()),)),))
        self.assertEqual(depth((2, (low, high))), 4)
        self.assertEqual(depth((2, (high, low))), 4)

    def test_the_same_tree_twice_counts_twice(self):
        twice = (4, (DOG, "and", DOG))
        self.measured(TALK, twice, ["the", "dog", "and", "the", "dog"], 17, 5, 3)

    def test_great_costs(self):
        great = 10 ** 60 - 1
        grammar = [("A", ("A", "A", "A"), great), ("A", (), great)]
        self.measured(grammar, (0, ((1, ()), (1, ()), (1, ()))), [], 4 * great, 4, 2)

    def test_two_hundred_within_one_another(self):
        self.measured(NEST, nested(200), ["a"] * 199 + ["b"] * 199, 199, 200, 200)

    def test_two_thousand_knots(self):
        self.measured(BULK, BULKY, ["x", "y"] * 1000, 999 * 2 + 3 + 1000 * 5, 2000, plain_depth(BULKY))

    def test_deeper_than_python_calls_may_go(self):
        self.measured(NEST, nested(1500), ["a"] * 1499 + ["b"] * 1499, 1499, 1500, 1500)

    def test_grown_trees(self):
        for grammar, _, tree in grown_trees():
            told = plain_cost(grammar, tree), plain_knots(tree), plain_depth(tree)
            self.measured(grammar, tree, plain_row(tree), *told)


class Right(unittest.TestCase):
    """[8]: when a tree is right for a grammar and a name."""

    def test_by_its_own_name_and_by_others(self):
        for grammar, own, tree in grown_trees():
            for name in names(grammar) + ["X", own + own, own + "_9"]:
                self.assertIs(right_tree(grammar, name, tree), name == own)

    def test_at_the_bounds(self):
        self.assertIs(right_tree(NEST, "A", nested(200)), True)
        self.assertIs(right_tree(NEST, "A", nested(1500)), True)
        self.assertIs(right_tree(BULK, "L", BULKY), True)
        self.assertIs(right_tree(BULK, "M", BULKY), False)

    def test_one_fault_deep_down(self):
        tree = (3, ("d",))
        for _ in range(199):
            tree = (0, ("a", tree, "b"))
        self.assertIs(right_tree(NEST, "A", tree), False)

    def test_numbers_below_0_and_beyond_the_rules(self):
        self.assertIs(right_tree(NEST, "A", (3, ("c",))), True)
        for number in [-1, -4, -5, -7, -8, 7, 8, 10 ** 59, -10 ** 59]:
            for children in [("c",), (), ("c", "d")]:
                self.assertIs(right_tree(NEST, "A", (number, children)), False)
                self.assertIs(right_tree(NEST, "A", (5, ((number, children),))), False)

    def test_another_rule_of_the_same_name_and_parts(self):
        self.assertIs(right_tree(NEST, "A", (4, ("c",))), True)

    def test_another_rule_of_another_name_with_the_same_parts(self):
        self.assertIs(right_tree(PAIRS, "P", (0, ((1, ("x",)), (2, ("x",))))), True)
        self.assertIs(right_tree(PAIRS, "P", (0, ((2, ("x",)), (2, ("x",))))), False)
        self.assertIs(right_tree(PAIRS, "P", (0, ((1, ("x",)), (1, ("x",))))), False)
        self.assertIs(right_tree(PAIRS, "P", (0, ((2, ("x",)), (1, ("x",))))), False)
        self.assertIs(right_tree(PAIRS, "P", (3, ((2, ("x",)), (1, ("x",))))), True)

    def test_children_otherwise(self):
        dog = (2, ("dog",))
        wrong = [
            (1, ("the",)), (1, (dog,)), (1, ()), (1, ("the", dog, dog)), (1, ("the", "the", dog)),
            (1, (dog, "the")), (1, ("the", "dog")), (1, (dog, dog)), (1, ("the", (5, ("dog",)))),
            (1, ("a", dog)), (1, ("the", (2, ()))), (1, ("the", DOG)), (1, ("the", "N_1")), (2, ("cat",)),
        ]
        for tree in wrong:
            with self.subTest(tree):
                self.assertIs(right_tree(TALK, "NP", tree), False)
                self.assertIs(right_tree(TALK, "S", (0, (tree, (6, ())))), False)

    def test_every_tree_with_one_knot_otherwise(self):
        seen = {True: 0, False: 0}
        for grammar, name, tree in grown_trees():
            if plain_knots(tree) > 12:
                continue
            for other in changed_trees(grammar, tree):
                told = plain_right(grammar, name, other)
                seen[told] += 1
                self.assertIs(right_tree(grammar, name, other), told, (name, other))
        self.assertGreater(seen[True], 10)
        self.assertGreater(seen[False], 1000)


class Readings(unittest.TestCase):
    """[8]: when a tree is a reading of a row."""

    def changed_rows(self, row):
        told = [row + ["zz"], ["zz"] + row]
        for k, word in enumerate(row):
            told += [row[:k] + row[k + 1:], row[:k] + [word, word] + row[k + 1:]]
            told += [row[:k] + ["the", word] + row[k + 1:], row[:k] + [word + "s"] + row[k + 1:]]
            if k > 0:
                told.append(row[:k - 1] + [word, row[k - 1]] + row[k + 1:])
        return told

    def test_own_row(self):
        self.assertIs(is_reading(TALK, SEEN, DOG_SEES_CAT), True)
        self.assertIs(is_reading(NEST, [], (1, ())), True)

    def test_row_otherwise(self):
        self.assertIs(is_reading(TALK, [], DOG_SEES_CAT), False)
        self.assertIs(is_reading(NEST, ["a"], (1, ())), False)
        for row in self.changed_rows(SEEN):
            with self.subTest(row):
                self.assertIs(is_reading(TALK, row, DOG_SEES_CAT), False)

    def test_tree_of_another_name_than_the_first(self):
        self.assertIs(is_reading(TALK, ["the", "dog"], DOG), False)
        self.assertIs(is_reading(TALK, [], (6, ())), False)
        self.assertIs(is_reading(TALK[1:], ["the", "dog"], (0, ("the", (1, ("dog",))))), True)

    def test_tree_that_is_not_right(self):
        self.assertIs(is_reading(TALK, ["the", "cat"], (0, ((1, ("the", (2, ("cat",)))), (6, ())))), False)
        self.assertIs(is_reading(NEST, ["c"], (-4, ("c",))), False)

    def test_grown_trees(self):
        for grammar, name, tree in grown_trees():
            row = plain_row(tree)
            self.assertIs(is_reading(grammar, row, tree), name == grammar[0][0])
            for other in self.changed_rows(row):
                self.assertIs(is_reading(grammar, other, tree), other == row and name == grammar[0][0])

    def test_row_of_two_thousand_words(self):
        row = ["x", "y"] * 1000
        self.assertIs(is_reading(BULK, row, BULKY), True)
        for other in [row[:-1], row[1:], row + ["x"], row[:999] + row[1000:] + ["y"], row[:1000] + ["y"] + row[1001:]]:
            self.assertIs(is_reading(BULK, other, BULKY), False)


class Kept(unittest.TestCase):
    """[2]: told rows are the asker's own, nothing handed in is changed, truths and numbers are of their kinds."""

    def test_told_row_is_new(self):
        told = row_of(DOG_SEES_CAT)
        told.append("x")
        told[0] = "y"
        self.assertEqual(row_of(DOG_SEES_CAT), SEEN)
        empty = row_of((1, ()))
        empty.append("x")
        self.assertEqual(row_of((1, ())), [])
        self.assertIs(type(told), list)

    def test_what_is_handed_in_stays(self):
        for grammar, name, tree in grown_trees():
            handed = grammar_of(grammar), row_of(tree)
            before = copy.deepcopy(handed)
            right_tree(handed[0], name, tree)
            is_reading(handed[0], handed[1], tree)
            tree_cost(handed[0], tree)
            self.assertEqual(handed, before)

    def test_grammar_changed_later_is_asked_as_it_is_now(self):
        grammar = grammar_of(NEST)
        self.assertEqual(tree_cost(grammar, (3, ("c",))), 4)
        grammar[3] = ("A", ("c",), 5)
        self.assertEqual(tree_cost(grammar, (3, ("c",))), 5)
        grammar[3] = ("A", ("d",), 5)
        self.assertIs(right_tree(grammar, "A", (3, ("c",))), False)

    def test_whole_numbers_are_no_truths(self):
        for grammar, _, tree in grown_trees():
            for number in (tree_cost(grammar, tree), knots(tree), depth(tree)):
                self.assertIs(type(number), int)


if __name__ == "__main__":
    unittest.main()
