"""[1], [4]: the promise of the whole, over drawn grammars and rows, sentence by sentence; and what the program tells,
handed in again wherever its kind is."""

import random
import unittest

from readgrove.costs import least_reading, prices, right_prices
from readgrove.counts import parting, rows_of_length, tree_count
from readgrove.errors import Endless, NoGrammar, NoReading
from readgrove.groves import grove, grove_count, ring, tree_numbered
from readgrove.machines import both_let, is_walk, lets, paper_none, right_none
from readgrove.mends import fewest_mends, is_mend, mend_paper, mended, right_mend_paper
from readgrove.nexts import next_words, shortest_rows, way_on
from readgrove.plainer import back_tree, no_empty, no_single, twos
from readgrove.readings import paper_against, reading, right_paper
from readgrove.spans import facts
from readgrove.texts import read_grammar, read_tree, shown_grammar, shown_tree, signs, text_grammar
from readgrove.trees import is_reading, tree_cost
from tests.trials import FIXED, apart, drawn_grammar, drawn_machine, has_ring, rows_for, words_in

DICE = random.Random(2026)
GRAMMARS = FIXED + [drawn_grammar(DICE) for _ in range(50)] + [drawn_grammar(DICE, ["a", "bb", "c"]) for _ in range(20)]
CASES = [(grammar, row) for grammar in GRAMMARS for row in rows_for(grammar, 6, 5, seed=21)]
MACHINES = [drawn_machine(DICE) for _ in range(6)]
LISTED = 60


def plainest(grammar):
    """(grammar, list of backs), by all three."""
    backs = []
    for function in (no_empty, no_single, twos):
        grammar, back = function(grammar)
        backs.append(back)
    return grammar, backs


def led_back(backs, tree):
    for back in reversed(backs):
        tree = back_tree(back, tree)
    return tree


class Whole(unittest.TestCase):
    def test_a_reading_or_a_paper(self):
        for grammar, row in CASES:
            tree, paper = reading(grammar, row), paper_against(grammar, row)
            self.assertEqual([tree is None, paper is None].count(True), 1)
            if tree is not None:
                self.assertTrue(is_reading(grammar, row, tree))
            else:
                self.assertTrue(right_paper(grammar, row, paper))

    def test_whoever_told_the_paper(self):
        dice = random.Random(8)
        let_by = 0
        for grammar, row in CASES:
            held = facts(grammar, row)
            own = [rule[0] for rule in grammar]
            for _ in range(4):
                more = [(dice.choice(own), dice.randint(0, len(row)), dice.randint(0, len(row) + 1)) for _ in range(2)]
                paper = [fact for fact in held if dice.randrange(8)] + more
                if right_paper(grammar, row, paper):
                    let_by += 1
                    self.assertIsNone(reading(grammar, row))
        self.assertGreater(let_by, 50)

    def test_the_grove_has_just_the_readings(self):
        for grammar, row in CASES:
            told = grove(grammar, row)
            count = grove_count(grammar, row)
            self.assertEqual(ring(grammar, told) is not None, has_ring(grammar, told))
            self.assertEqual(count is None, ring(grammar, told) is not None)
            if count is None:
                with self.assertRaises(Endless):
                    tree_numbered(grammar, row, 0)
                continue
            trees = [tree_numbered(grammar, row, number) for number in range(min(count, LISTED))]
            self.assertEqual(len(set(trees)), len(trees))
            self.assertTrue(all(is_reading(grammar, row, tree) for tree in trees))
            if count <= LISTED:
                self.assertIn(reading(grammar, row), trees or [None])
                least = least_reading(grammar, row)
                self.assertEqual(least is None, count == 0)
                if least is not None:
                    self.assertIn(least[1], trees)
                    self.assertEqual(min(tree_cost(grammar, tree) for tree in trees), least[0])
                with self.assertRaises(NoReading):
                    tree_numbered(grammar, row, count)

    def test_no_reading_costs_less(self):
        for grammar, row in CASES:
            told = prices(grammar, row)
            self.assertTrue(right_prices(grammar, row, told))
            least = least_reading(grammar, row)
            self.assertEqual(dict(told).get((grammar[0][0], 0, len(row))), least and least[0])
            if least is not None:
                self.assertEqual(tree_cost(grammar, least[1]), least[0])
                self.assertLessEqual(least[0], tree_cost(grammar, reading(grammar, row)))

    def test_no_fewer_mends(self):
        for grammar, row in CASES:
            told = fewest_mends(grammar, row)
            paper = mend_paper(grammar, row)
            self.assertTrue(right_mend_paper(grammar, row, paper))
            self.assertEqual(dict(paper).get((grammar[0][0], 0, len(row))), told and told[0])
            if told is not None:
                self.assertTrue(is_mend(row, told[1]) and is_reading(grammar, mended(told[1]), told[2]))
                self.assertEqual(apart(row, mended(told[1])), told[0])
                for other in rows_for(grammar, 6, 6, seed=5):
                    if reading(grammar, other) is not None:
                        self.assertLessEqual(told[0], apart(row, other))

    def test_a_word_is_possible_next_where_a_told_row_goes_on_so(self):
        for grammar, row in CASES:
            possible = next_words(grammar, row)
            for word in words_in(grammar) + ["zz"]:
                told = way_on(grammar, row + [word])
                self.assertEqual(told is not None, word in possible)
                if told is not None:
                    self.assertEqual(told[:len(row) + 1], row + [word])
                    self.assertIsNotNone(reading(grammar, told))

    def test_plainer_grammars(self):
        for grammar in GRAMMARS:
            plain, backs = plainest(grammar)
            self.assertIsNone(parting(grammar, plain, 3))
            for row in rows_for(grammar, 6, 5, seed=21):
                tree = reading(plain, row)
                self.assertEqual(tree is None, reading(grammar, row) is None)
                if tree is not None:
                    self.assertTrue(is_reading(grammar, row, led_back(backs, tree)))

    def test_what_a_grammar_and_a_machine_both_let_by(self):
        for grammar in GRAMMARS:
            for machine in MACHINES:
                told, paper = both_let(grammar, machine), paper_none(grammar, machine)
                self.assertEqual([told is None, paper is None].count(True), 1)
                if told is None:
                    self.assertTrue(right_none(grammar, machine, paper))
                    for row in rows_for(grammar, 6, 5, seed=21):
                        self.assertFalse(lets(machine, row) and reading(grammar, row) is not None)
                else:
                    row, tree, walk = told
                    self.assertTrue(is_reading(grammar, row, tree) and is_walk(machine, row, walk) and lets(machine, row))

    def test_counts_and_rows(self):
        for grammar in GRAMMARS:
            for length in range(4):
                rows = rows_of_length(grammar, length)
                counts = [grove_count(grammar, row) for row in rows]
                told = None if None in counts else sum(counts)
                self.assertEqual(tree_count(grammar, grammar[0][0], length), told)
                self.assertNotIn(0, counts)

    def test_texts(self):
        for grammar, row in CASES:
            self.assertEqual(read_grammar(shown_grammar(grammar)), grammar)
            tree = reading(grammar, row)
            if tree is not None:
                self.assertTrue(is_reading(grammar, row, read_tree(grammar, shown_tree(grammar, tree))))


class HandedInAgain(unittest.TestCase):
    """What the program tells may be handed in wherever its kind is."""

    def looked_at(self, grammar, row):
        tree = reading(grammar, row)
        paper = paper_against(grammar, row)
        self.assertEqual(tree is None, paper is not None)
        if tree is None:
            self.assertTrue(right_paper(grammar, row, paper))
            self.assertEqual(grove_count(grammar, row), 0)
        else:
            self.assertTrue(is_reading(grammar, row, tree))
            self.assertTrue(is_reading(grammar, row, least_reading(grammar, row)[1]))
            self.assertEqual(read_tree(grammar, shown_tree(grammar, tree)), tree)
        self.assertTrue(right_prices(grammar, row, prices(grammar, row)))
        told = fewest_mends(grammar, row)
        self.assertTrue(right_mend_paper(grammar, row, mend_paper(grammar, row)))
        self.assertTrue(is_reading(grammar, mended(told[1]), told[2]))
        possible = next_words(grammar, row)
        self.assertEqual([word for word in words_in(grammar) if way_on(grammar, row + [word]) is not None], possible)

    def test_text_grammar(self):
        grammar = text_grammar()
        for text in ("S = a B : 12\nB =", "S = a", "S =", "", "S = a\n", "s", "S = a : 0", "AB = c"):
            self.looked_at(grammar, signs(text))
        self.assertEqual(shortest_rows(grammar)[0][1], ["upa", "blank", "is"])
        self.assertEqual(rows_of_length(grammar, 2), [])
        self.assertEqual(len(rows_of_length(grammar, 3)), 26)
        self.assertEqual(tree_count(grammar, grammar[0][0], 4), 26 * 26)
        self.assertEqual(read_grammar(shown_grammar(grammar)), grammar)
        with self.assertRaises(NoGrammar):
            no_single(grammar)

    def test_text_grammar_made_plainer(self):
        plain, backs = plainest(text_grammar())
        for text in ("S = a B : 12\nB =", "S = a", "S =", "", "S = a\n", "AB = cd E"):
            tree = reading(plain, signs(text))
            self.assertEqual(tree is None, reading(text_grammar(), signs(text)) is None)
            if tree is not None:
                self.assertEqual(led_back(backs, tree), reading(text_grammar(), signs(text)))

    def test_text_grammar_and_a_machine(self):
        words = signs("S =ab")
        machine = (6, [(k, word, k + 1) for k, word in enumerate(signs("S = a"))] + [(5, word, 5) for word in words], [5])
        told = both_let(text_grammar(), machine)
        self.assertEqual((told[0], told[2]), (signs("S = a"), [0, 1, 2, 3, 4, 5]))
        none = (1, [(0, word, 0) for word in signs("S =")[:2]], [0])
        self.assertTrue(right_none(text_grammar(), none, paper_none(text_grammar(), none)))

    def test_plainer_grammars(self):
        for grammar in GRAMMARS[:30]:
            if shortest_rows(grammar) and shortest_rows(grammar)[0][0] == grammar[0][0]:
                plain = plainest(grammar)[0]
                for row in rows_for(grammar, 4, 2, seed=2):
                    self.looked_at(plain, row)
                self.assertEqual(read_grammar(shown_grammar(plain)), plain)


if __name__ == "__main__":
    unittest.main()
