import unittest

from readgrove.readings import paper_against, reading, right_paper
from readgrove.spans import facts
from readgrove.trees import is_reading, knots
from tests.samples import TALK
from tests.trials import (
    BRACKETS, EMPTY_TWICE, EVEN, NOTHING, ONE_RING, THREE_RING, TWO_RING, all_grammars, facts_on_ways, reads, rows_for,
    slow_cuts, slow_facts, slow_prices, spans, top_of,
)


def slow_right(grammar, row, paper):
    """[13], word by word."""
    known = set(paper)
    for number, rule in enumerate(grammar):
        for i, j in spans(row):
            if slow_cuts(grammar, row, number, i, j, known) and (rule[0], i, j) not in known:
                return False
    return top_of(grammar, row) not in known


class Readings(unittest.TestCase):
    """[12]"""

    def looked_at(self, grammar, row):
        tree = reading(grammar, row)
        if tree is None:
            self.assertFalse(reads(grammar, row))
            return
        self.assertIs(is_reading(grammar, row, tree), True)
        for way in facts_on_ways(grammar, top_of(grammar, row), tree):
            self.assertEqual(len(way), len(set(way)), way)

    def test_all_grammars(self):
        for grammar in all_grammars():
            for row in rows_for(grammar, 6, 6):
                with self.subTest(grammar=grammar, row=row):
                    self.looked_at(grammar, row)

    def test_rings(self):
        for grammar in (ONE_RING, TWO_RING, EMPTY_TWICE, THREE_RING):
            for row in ([], ["a"], ["b"], ["b", "a"], ["a", "a", "a"], ["a", "b"]):
                self.looked_at(grammar, row)
        self.assertIsNotNone(reading(EMPTY_TWICE, []))
        self.assertIsNotNone(reading(THREE_RING, ["b"]))
        self.assertIsNone(reading([("S", ("S",), 0)], []))

    def test_the_fewest_knots(self):
        for grammar in all_grammars():
            for row in rows_for(grammar, 4, 4):
                tree = reading(grammar, row)
                if tree is not None:
                    fewest = slow_prices([rule[:2] + (1,) for rule in grammar], row)
                    self.assertEqual(knots(tree), fewest[top_of(grammar, row)])

    def test_by_hand(self):
        self.assertEqual(reading(EVEN, ["a", "b", "b", "a"]), (1, ("a", (2, ("b", (0, ()), "b")), "a")))
        self.assertEqual(reading(EVEN, []), (0, ()))
        self.assertIsNone(reading(EVEN, ["a", "b"]))
        self.assertIsNone(reading(NOTHING, ["b"]))
        self.assertIsNone(reading(NOTHING, []))
        self.assertIsNone(reading(TALK, ["the", "dog", "sees"]))

    def test_a_name_of_its_own_is_not_the_first_one(self):
        self.assertIsNone(reading([("S", ("T", "a"), 0), ("T", ("b",), 0)], ["b"]))

    def test_sixteen_words(self):
        row = ["a"] * 16
        self.assertTrue(is_reading(BRACKETS, row, reading(BRACKETS, row)))
        self.assertTrue(is_reading(EMPTY_TWICE, row, reading(EMPTY_TWICE, row)))

    def test_each_name_in_each_span(self):
        own = "SABCDEFGHIJK"
        grammar = [(name, (below,), 0) for name, below in zip(own, own[1:] + "S")] + [("K", ("a", "S"), 0), ("K", (), 0)]
        self.looked_at(grammar, ["a"] * 16)


class Papers(unittest.TestCase):
    """[13], [14]"""

    def test_just_one_of_both(self):
        for grammar in all_grammars():
            for row in rows_for(grammar, 5, 4):
                paper = paper_against(grammar, row)
                self.assertEqual(paper is None, reads(grammar, row))
                self.assertEqual(paper is None, reading(grammar, row) is not None)
                if paper is not None:
                    self.assertEqual(paper, facts(grammar, row))
                    self.assertIs(right_paper(grammar, row, paper), True)

    def test_changed_papers(self):
        seen = {True: 0, False: 0}
        for grammar in all_grammars(40):
            for row in rows_for(grammar, 4, 3):
                told = sorted(slow_facts(grammar, row))
                papers = [told, [], told[::2], told[1:], told[:-1]]
                for rule in grammar:
                    papers += [told + [(rule[0], i, j)] for i, j in spans(row)[::3]]
                papers += [told[:k] + told[k + 1:] for k in range(0, len(told), 3)]
                papers.append([(rule[0], i, j) for rule in grammar for i, j in spans(row)])
                top = top_of(grammar, row)
                papers += [[fact for fact in paper if fact != top] for paper in list(papers[-3:])]
                for paper in papers:
                    right = slow_right(grammar, row, paper)
                    seen[right] += 1
                    self.assertIs(right_paper(grammar, row, paper), right, (grammar, row, paper))
                    self.assertFalse(right and reads(grammar, row))
        self.assertGreater(seen[True], 100)
        self.assertGreater(seen[False], 1000)

    def test_more_that_closes_and_more_that_does_not(self):
        grammar = [("S", ("A", "b"), 0), ("A", ("a",), 0), ("B", ("A",), 0), ("C", ("b", "C"), 0)]
        row = ["a", "c"]
        told = paper_against(grammar, row)
        self.assertEqual(told, [("A", 0, 1), ("B", 0, 1)])
        self.assertIs(right_paper(grammar, row, told + [("B", 1, 2)]), True)
        self.assertIs(right_paper(grammar, row, told + [("C", 0, 2)]), True)
        self.assertIs(right_paper(grammar, row, told + [("A", 1, 2)]), False)
        self.assertIs(right_paper(grammar, row, told + [("A", 1, 2), ("B", 1, 2)]), True)
        self.assertIs(right_paper(grammar, row, told + [("S", 0, 2)]), False)
        self.assertIs(right_paper(grammar, row, told + [("S", 0, 1)]), True)

    def test_facts_turned_about(self):
        for grammar in all_grammars(30):
            for row in rows_for(grammar, 4, 3):
                told = sorted(slow_facts(grammar, row))
                turned = [(name, j, i) for name, i, j in told]
                stays = [fact for fact in told if fact[1] == fact[2]]
                self.assertIs(right_paper(grammar, row, turned), slow_right(grammar, row, stays))
                self.assertIs(right_paper(grammar, row, told + turned), slow_right(grammar, row, told))

    def test_order_and_repeats_play_no_part(self):
        for grammar in all_grammars(20):
            for row in rows_for(grammar, 4, 2):
                told = facts(grammar, row)
                right = not reads(grammar, row)
                self.assertIs(right_paper(grammar, row, told[::-1]), right)
                self.assertIs(right_paper(grammar, row, told + told), right)

    def test_facts_out_of_the_row_and_of_other_names(self):
        grammar = [("S", ("A", "A"), 0), ("A", ("a",), 0), ("S", ("b", "S"), 0), ("E", (), 0)]
        row = ["a", "b"]
        told = paper_against(grammar, row)
        others = [
            ("A", -1, 0), ("A", 1, 3), ("A", 2, 1), ("S", 2, 0), ("S", 0, 3), ("X", 0, 2), ("a", 0, 1), ("a", 1, 2),
            ("E", 3, 3), ("E", -1, -1), ("A", 0, -2), ("S", -1, 2), ("b", 1, 1), ("X_1", 1, 1), ("A", 5, 9),
        ]
        for other in others:
            with self.subTest(other):
                self.assertIs(right_paper(grammar, row, told + [other]), True)
                self.assertIs(right_paper(grammar, row, [other] + told[1:]), False)
        self.assertIs(right_paper(grammar, row, others + told + others), True)

    def test_empty_paper(self):
        self.assertIs(right_paper([("S", ("S",), 0)], ["a"], []), True)
        self.assertIs(right_paper([("S", ("a",), 0)], ["a"], []), False)
        self.assertIs(right_paper([("S", ("a",), 0)], [], []), True)
        self.assertIs(right_paper([("S", (), 0)], ["a"], []), False)
        self.assertIs(right_paper([("S", ("b",), 0), ("T", (), 0)], ["a"], []), False)
        self.assertEqual(paper_against([("S", ("S",), 0)], ["a"]), [])

    def test_ten_thousand_facts(self):
        grammar = [("S", ("a", "S"), 0), ("S", ("b",), 0), ("T", ("T", "T"), 0), ("T", ("a",), 0)]
        row = ["a"] * 16
        told = paper_against(grammar, row)
        many = told + [("T", i, j + 20) for i in range(100) for j in range(98)]
        self.assertIs(right_paper(grammar, row, many), True)
        self.assertIs(right_paper(grammar, row, many[1:]), False)


if __name__ == "__main__":
    unittest.main()
