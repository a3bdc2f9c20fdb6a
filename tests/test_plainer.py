import re
import unittest

from readgrove.errors import NoGrammar
from readgrove.grammars import grammar_of, is_name, names
from readgrove.plainer import back_tree, made_names, no_empty, no_single, twos
from readgrove.readings import reading
from readgrove.trees import is_reading, right_tree, row_of
from tests.samples import NEST, PAIRS, TALK
from tests.trials import (
    EMPTY_TWICE, EVEN, NOTHING, ONE_RING, THREE_RING, TWO_RING, UNFRUITFUL, all_grammars, all_rows, reads,
    trees_to_depth, words_in,
)

BARRED = [("S_1", ("S_0", "a", "S_1"), 3), ("S_0", (), 1), ("S_1", ("S_0",), 0), ("M_0", ("S_1", "M_1", "b"), 0),
          ("M_1", ("M_0",), 0), ("M_1", ("a", "b", "a", "b"), 2), ("S_1", ("M_0", "M_1", "S_0", "M_0"), 1)]
FIRST_APART = [("S", (), 1), ("S", ("A", "A", "A"), 2), ("A", ("a",), 1), ("A", ("B",), 0), ("B", ("A",), 0),
               ("B", ("b", "b"), 9), ("S", (), 5)]
CHAINS = [
    [no_empty], [twos], [no_empty, no_single], [no_empty, twos], [no_empty, no_single, twos], [twos, no_empty],
    [twos, no_empty, no_single], [no_empty, twos, no_single], [no_empty, no_empty], [twos, twos],
    [no_empty, no_single, no_single], [no_empty, no_single, twos, no_empty, no_single, twos],
]


def plain_enough(grammar):
    """Whether no_single may be asked of it, word by word."""
    first = grammar[0][0]
    is_part = any(first in rule[1] for rule in grammar)
    return all(rule[1] != () or (rule[0] == first and not is_part) for rule in grammar)


class Plainer(unittest.TestCase):
    """[24], [25]"""

    def is_plain(self, function, old, new):
        first = new[0][0]
        if function is no_empty:
            empty = [rule for rule in new if rule[1] == ()]
            self.assertLessEqual(len(empty), 1)
            self.assertTrue(all(rule[0] == first for rule in empty))
            self.assertTrue(plain_enough(new))
        if function is no_single:
            self.assertFalse([rule for rule in new if len(rule[1]) == 1 and is_name(rule[1][0])])
            self.assertEqual([rule[0] for rule in new if rule[1] == ()],
                             [first] if any(rule[1] == () for rule in old) else [])
        if function is twos:
            self.assertFalse([rule for rule in new if len(rule[1]) > 2])
            self.assertLessEqual({rule[:2] for rule in new if rule[1] == ()}, {rule[:2] for rule in old})
            single = {rule[:2] for rule in new if len(rule[1]) == 1 and is_name(rule[1][0])}
            self.assertLessEqual(single, {rule[:2] for rule in old})
        if function is not no_empty and any(rule[:2] == (old[0][0], ()) for rule in old):
            if not any(old[0][0] in rule[1] for rule in old):
                self.assertFalse([rule for rule in new if first in rule[1]])

    def is_told(self, function, old):
        told = function(old)
        self.assertIs(type(told), tuple)
        new, backs = told
        self.assertEqual(grammar_of(new), new)
        self.assertEqual(len(new), len(backs))
        self.assertIs(type(backs), list)
        self.assertEqual({rule[2] for rule in new}, {0})
        for name in names(new):
            if name not in names(old):
                self.assertRegex(name, r"^[A-Z]{1,8}_[0-9]{1,4}$")
        self.is_plain(function, old, new)
        return told

    def leads_back(self, old, new, backs):
        for name in names(old):
            for tree in trees_to_depth(new, name, 4, 4):
                back = back_tree(backs, tree)
                self.assertTrue(right_tree(old, name, back), (old, new, tree, back))
                self.assertEqual(row_of(back), row_of(tree))
        for tree in trees_to_depth(new, new[0][0], 4, 4):
            back = back_tree(backs, tree)
            self.assertTrue(is_reading(old, row_of(tree), back))

    def chained(self, grammar, chain, most=3):
        told = [(grammar, None)]
        for function in chain:
            if function is no_single and not plain_enough(told[-1][0]):
                with self.assertRaises(NoGrammar):
                    no_single(told[-1][0])
                return
            told.append(self.is_told(function, told[-1][0]))
            self.leads_back(told[-2][0], *told[-1])
        last = told[-1][0]
        for row in all_rows((words_in(grammar) + ["a", "zz"])[:2 if most > 2 else 3], most):
            tree = reading(last, row)
            self.assertEqual(tree is not None, reads(grammar, row), (grammar, last, row))
            if tree is not None:
                for _, backs in reversed(told[1:]):
                    tree = back_tree(backs, tree)
                self.assertTrue(is_reading(grammar, row, tree))

    def test_each_and_each_behind_the_other(self):
        for grammar in all_grammars() + [BARRED, FIRST_APART]:
            for chain in CHAINS:
                with self.subTest(grammar=grammar, chain=[function.__name__ for function in chain]):
                    self.chained(grammar, chain)

    def test_no_single_at_once(self):
        for grammar in all_grammars() + [BARRED, FIRST_APART]:
            self.chained(grammar, [no_single])
            self.chained(grammar, [no_single, twos])
            self.chained(grammar, [twos, no_single])

    def test_all_three(self):
        for grammar in all_grammars() + [BARRED, FIRST_APART]:
            new = twos(no_single(no_empty(grammar)[0])[0])[0]
            for name, parts, _ in new:
                two = len(parts) == 2
                word = len(parts) == 1 and not is_name(parts[0])
                empty = parts == () and name == new[0][0]
                self.assertTrue(two or word or empty, (grammar, new))
            if ((new[0][0], (), 0)) in new:
                self.assertFalse([rule for rule in new if new[0][0] in rule[1]])

    def test_longer_rows(self):
        for grammar in (NEST, PAIRS, TALK, EMPTY_TWICE, THREE_RING, EVEN, TWO_RING, FIRST_APART):
            self.chained(grammar, [no_empty, no_single, twos], 5)

    def test_first_name_that_is_a_part(self):
        new, backs = no_empty(EVEN)
        self.assertNotIn(new[0][0], names(EVEN))
        self.assertEqual(back_tree(backs, reading(new, [])), (0, ()))
        self.assertEqual(back_tree(backs, reading(new, ["a", "a"])), (1, ("a", (0, ()), "a")))
        self.assertEqual(no_empty(FIRST_APART)[0][0][0], "S")

    def test_smallest_tree_without_words(self):
        grammar = [("S", ("a", "E"), 0), ("E", ("E", "E"), 0), ("E", (), 0)]
        new, backs = no_empty(grammar)
        self.assertEqual(new, [("S", ("a",), 0)])
        self.assertEqual(back_tree(backs, (0, ("a",))), (0, ("a", (2, ()))))

    def test_name_with_no_words_but_the_empty_row(self):
        new, backs = no_empty([("S", ("E", "E"), 4), ("E", (), 3)])
        self.assertEqual(new, [("S", (), 0)])
        self.assertEqual(back_tree(backs, (0, ())), (0, ((1, ()), (1, ()))))

    def test_single_rules_in_a_ring(self):
        new, backs = no_single(TWO_RING)
        self.assertEqual(sorted(new), [("A", ("a",), 0), ("A", ("b", "A"), 0), ("S", ("a",), 0), ("S", ("b", "A"), 0)])
        tree = reading(new, ["a"])
        self.assertEqual(back_tree(backs, tree), (0, ((2, ("a",)),)))
        self.assertEqual(no_single(ONE_RING)[0], [("S", ("a",), 0)])

    def test_names_that_are_taken(self):
        taken = [(f"M_{k}", ("a",), 0) for k in range(5)] + [("M_0", ("a", "b", "c", "d"), 0), ("M_0", (), 0),
                                                             ("M_1", ("M_0", "M_0", "M_1"), 0)]
        for function in (no_empty, twos):
            new = function(taken)[0]
            made = [name for name in names(new) if name not in names(taken)]
            self.assertTrue(made)
            self.assertTrue(all(re.fullmatch("[A-Z]+_[0-9]{1,4}", name) for name in made))
            self.chained(taken, [function])

    def test_rules_of_three_and_four_parts(self):
        grammar = [("S", ("a", "S", "b", "S"), 1), ("S", ("a", "S", "b"), 1), ("S", ("c",), 1), ("S", ("S", "S", "b"), 0)]
        new, backs = self.is_told(twos, grammar)
        row = ["a", "c", "b", "a", "c", "b", "c"]
        self.assertEqual(back_tree(backs, reading(new, row)),
                         (0, ("a", (2, ("c",)), "b", (0, ("a", (2, ("c",)), "b", (2, ("c",)))))))

    def test_refused(self):
        refused = [
            EVEN, EMPTY_TWICE, [("S", ("A",), 0), ("A", (), 0)], [("S", (), 0), ("A", ("S",), 0)],
            [("S", ("a",), 0), ("A", (), 0)], [("S", (), 0), ("S", ("S",), 0)], THREE_RING, TALK, NEST,
        ]
        for grammar in refused:
            with self.subTest(grammar), self.assertRaises(NoGrammar):
                no_single(grammar)
        for grammar in ([("S", (), 0)], [("S", (), 0), ("S", (), 1)], [("S", ("A",), 0), ("S", (), 2), ("A", ("a",), 0)]):
            self.chained(grammar, [no_single])

    def test_grammar_that_reads_nothing(self):
        dead = [("S", ("S",), 0), ("S", ("T", "S"), 0), ("T", ("U",), 0), ("U", ("T",), 0), ("V", ("a",), 0)]
        for grammar in (NOTHING, [("S", ("S",), 0)], dead, [("S", ("S", "S", "S", "S"), 0)]):
            for chain in CHAINS + [[no_single]]:
                self.chained(grammar, chain)

    def test_made_names(self):
        made = made_names(["M_0", "M_9999", "MM_0"], 10005)
        self.assertEqual(len(set(made)), 10005)
        self.assertTrue(all(re.fullmatch("[A-Z]{1,8}_[0-9]{1,4}", name) for name in made))
        self.assertEqual(set(made) & {"M_0", "M_9999", "MM_0"}, set())

    def test_unfruitful_parts(self):
        beside = [("S", ("A",), 0), ("S", ("b",), 0), ("A", ("a", "U"), 0), ("U", ("U",), 0), ("S", ("A", "b"), 0)]
        for chain in CHAINS + [[no_single]]:
            self.chained(beside, chain)
        self.chained(UNFRUITFUL, [no_empty, no_single, twos], 4)

    def test_two_hundred_within_one_another(self):
        grammar = [("S", ("a", "E", "S", "b"), 0), ("S", ("A",), 0), ("A", ("S",), 0), ("A", ("c",), 0), ("E", (), 0)]
        told = [no_empty(grammar)]
        told.append(no_single(told[-1][0]))
        told.append(twos(told[-1][0]))
        tree = reading(told[-1][0], ["c"])
        step = reading(told[-1][0], ["a", "c", "b"])
        whole = nested(step, tree, 199)
        self.assertTrue(is_reading(told[-1][0], ["a"] * 199 + ["c"] + ["b"] * 199, whole))
        for _, backs in reversed(told):
            whole = back_tree(backs, whole)
        self.assertTrue(is_reading(grammar, ["a"] * 199 + ["c"] + ["b"] * 199, whole))


def nested(step, leaf, times):
    """The tree step, in which the leaf stands once, put into itself so many times."""
    def put(tree, inner):
        if tree == leaf:
            return inner
        return (tree[0], tuple(put(child, inner) if isinstance(child, tuple) else child for child in tree[1]))
    whole = leaf
    for _ in range(times):
        whole = put(step, whole)
    return whole


if __name__ == "__main__":
    unittest.main()
