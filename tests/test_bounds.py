"""[2]: at the bounds, in a time that is no trouble."""

import random
import time
import unittest

from readgrove.costs import least_reading, prices, right_prices
from readgrove.counts import parting, rows_of_length, tree_count
from readgrove.desk import Desk
from readgrove.errors import Endless, NoReading
from readgrove.groves import grove, grove_count, ring, tree_numbered
from readgrove.machines import both_let, is_walk, paper_none, right_none
from readgrove.mends import fewest_mends, is_mend, mend_paper, mended, right_mend_paper
from readgrove.nexts import next_words, shortest_rows, way_on
from readgrove.plainer import back_tree, no_empty, no_single, twos
from readgrove.readings import paper_against, reading, right_paper
from readgrove.spans import cuts, facts
from readgrove.texts import shown_grammar
from readgrove.trees import is_reading, tree_cost
from tests.trials import fourfold, spans, value_of

OWN = "ABCDEFGHIJKL"
ROW = ["a"] * 16
PATIENCE = 60


def dense(leaves, sizes):
    """Forty rules of those sizes over twelve names, those of leaves among them."""
    dice = random.Random(11)
    rules = list(leaves)
    while len(rules) < 40:
        parts = tuple(dice.choice(OWN) for _ in range(dice.choice(sizes)))
        rules.append((OWN[len(rules) % 12], parts, dice.randrange(10 ** 60)))
    return rules


WORDS = dense([(name, ("a",), 10 ** 60 - 1) for name in OWN], [4])
MIXED = dense([(name, ("a",), 1) for name in OWN], [2, 3, 4])
RINGED = dense([(name, (), 5) for name in OWN] + [(name, ("a",), 1) for name in OWN], [4])
FULL = [(name, ("A", "B", "C", "D"), k) for k in range(3) for name in OWN] + [("D", ("a", "a", "a", "a"), 0),
                                                                          ("A", (), 0), ("B", (), 0), ("C", (), 0)]
UNREAD = [(name, (), 0) for name in OWN] + [(OWN[k % 12], (OWN[(k + 1) % 12],) * 4, k) for k in range(27)] + [
    ("L", ("b", "a", "A", "A"), 1)
]


class Timed(unittest.TestCase):
    def setUp(self):
        self.begun = time.monotonic()

    def tearDown(self):
        self.assertLess(time.monotonic() - self.begun, PATIENCE)


class Rows(Timed):
    def test_forty_rules_each(self):
        for grammar in (WORDS, MIXED, RINGED, FULL, UNREAD):
            self.assertEqual(len(grammar), 40)
            self.assertEqual(len({rule[0] for rule in grammar}), 12)

    def test_reading_or_paper(self):
        for grammar in (WORDS, MIXED, RINGED, FULL, UNREAD):
            tree = reading(grammar, ROW)
            paper = paper_against(grammar, ROW)
            self.assertEqual(tree is None, paper is not None)
            if tree is None:
                self.assertTrue(right_paper(grammar, ROW, paper))
            else:
                self.assertTrue(is_reading(grammar, ROW, tree))
        self.assertIsNone(reading(UNREAD, ROW))

    def test_every_fact_holds(self):
        self.assertEqual(facts(RINGED, ROW), sorted((name,) + span for name in OWN for span in spans(ROW)))
        self.assertEqual(len(cuts(RINGED, ROW, 30, 0, 16, facts(RINGED, ROW))), 969)

    def test_costs(self):
        for grammar in (WORDS, MIXED, RINGED, FULL, UNREAD):
            told = least_reading(grammar, ROW)
            every = prices(grammar, ROW)
            self.assertTrue(right_prices(grammar, ROW, every))
            if told is not None:
                self.assertEqual(tree_cost(grammar, told[1]), told[0])
                self.assertEqual(dict(every)[("A", 0, 16)], told[0])

    def test_groves(self):
        for grammar in (WORDS, MIXED):
            count = grove_count(grammar, ROW)
            self.assertGreater(count, 10 ** 4)
            for number in (0, count // 2, count - 1):
                self.assertTrue(is_reading(grammar, ROW, tree_numbered(grammar, ROW, number)))

    def test_grove_with_rings(self):
        told = grove(RINGED, ROW)
        self.assertEqual(len(told), 12 * len(spans(ROW)))
        self.assertIsNotNone(ring(RINGED, told))
        self.assertIsNone(grove_count(RINGED, ROW))
        with self.assertRaises(Endless):
            tree_numbered(RINGED, ROW, 0)

    def test_tree_of_millions_of_knots(self):
        grammar = [(name, (below,) * 4, 1) for name, below in zip(OWN, OWN[1:])] + [("L", (), 1)]
        self.assertEqual(least_reading(grammar, [])[0], (4 ** 12 - 1) // 3)
        self.assertEqual(reading(grammar, [])[0], 0)

    def test_count_of_more_than_a_million_figures(self):
        desk = Desk()
        for rule in shown_grammar(fourfold(OWN, 2)).split("\n"):
            desk.told("rule " + rule)
        told = desk.told("count")
        self.assertEqual(len(told), 1262612)
        self.assertTrue(told.startswith("20650635398358879243991194945816501695"))
        self.assertTrue(value_of(told) == 2 ** 4 ** 11)

    def test_numbers_of_more_than_a_million_figures(self):
        grammar = fourfold(OWN, 2)
        count = grove_count(grammar, [])
        self.assertTrue(count == 2 ** 4 ** 11)
        for number in (count, count + 1, -count):
            with self.assertRaises(NoReading):
                tree_numbered(grammar, [], number)
        for number, last in ((count - 1, 12), (count // 3 * 2, 11)):
            tree = tree_numbered(grammar, [], number)
            for k in range(11):
                self.assertEqual((tree[0], len(tree[1])), (k, 4))
                tree = tree[1][3]
            self.assertEqual(tree, (last, ()))


class Stages(Timed):
    def test_next(self):
        for grammar in (WORDS, MIXED, RINGED, FULL, UNREAD):
            self.assertEqual(len(shortest_rows(grammar)), 12)
            told = way_on(grammar, ROW)
            self.assertEqual(next_words(grammar, ROW), [] if told is None else ["a"])
        many = [("S", tuple(a + b + c for c in "wxyz") if b < "n" else ("S", "S"), 0) for a in "abcd" for b in "efghijklmn"]
        self.assertEqual(len(many), 40)
        self.assertEqual(len(next_words(many, list(many[0][1]) * 4)), 36)

    def test_mends(self):
        for grammar in (WORDS, MIXED, RINGED, FULL, UNREAD):
            row = ["b", "a"] * 8
            count, steps, tree = fewest_mends(grammar, row)
            self.assertTrue(is_mend(row, steps))
            self.assertTrue(is_reading(grammar, mended(steps), tree))
            paper = mend_paper(grammar, row)
            self.assertEqual(len(paper), 12 * len(spans(row)))
            self.assertEqual(dict(paper)[("A", 0, 16)], count)
            self.assertTrue(right_mend_paper(grammar, row, paper))

    def test_row_of_millions_of_words(self):
        grammar = [(name, (below,) * 4, 1) for name, below in zip(OWN, OWN[1:])] + [("L", ("a",), 1)]
        self.assertEqual(dict(mend_paper(grammar, ["b"]))[("A", 0, 1)], 4 ** 11)
        self.assertEqual(fewest_mends(grammar, ["a"])[0], 4 ** 11 - 1)

    def test_plainer(self):
        for grammar in (WORDS, MIXED, RINGED, FULL, UNREAD):
            told = [no_empty(grammar)]
            told.append(no_single(told[-1][0]))
            told.append(twos(told[-1][0]))
            row = ROW[:10]
            tree = reading(told[-1][0], row)
            self.assertEqual(tree is None, reading(grammar, row) is None)
            if tree is not None:
                for _, backs in reversed(told):
                    tree = back_tree(backs, tree)
                self.assertTrue(is_reading(grammar, row, tree))

    def test_machines(self):
        dice = random.Random(4)
        arrows = [(dice.randrange(12), "a", dice.randrange(12)) for _ in range(60)]
        for grammar in (WORDS, MIXED, RINGED, FULL, UNREAD):
            for ends in ([11], [], list(range(12))):
                machine = (12, arrows, ends)
                told, paper = both_let(grammar, machine), paper_none(grammar, machine)
                self.assertEqual(told is None, paper is not None)
                if told is None:
                    self.assertTrue(right_none(grammar, machine, paper))
                else:
                    self.assertTrue(is_reading(grammar, told[0], told[1]))
                    self.assertTrue(is_walk(machine, told[0], told[2]))

    def test_counts(self):
        for grammar in (WORDS, MIXED, RINGED, FULL, UNREAD):
            self.assertEqual(tree_count(grammar, "A", 16), grove_count(grammar, ROW) if grammar is not UNREAD else None)
            tree_count(grammar, "A", 60)

    def test_rows(self):
        free = [(name, (word,), 0) for name in OWN for word in "ab"][:24]
        two = free + [(OWN[k % 12], (OWN[(k + 1) % 12],) * (2 + k % 3), 0) for k in range(16)]
        self.assertEqual(len(rows_of_length(two, 8)), 256)
        self.assertIsNone(parting(two, list(two), 8))
        self.assertEqual(parting(two, [("S", ("S", "S"), 0), ("S", ("a",), 0), ("S", ("b",), 0)], 8), ["a"] * 3)


if __name__ == "__main__":
    unittest.main()
