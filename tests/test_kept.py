"""[2]: nothing handed in is changed or kept, and every told list is the asker's own."""

import copy
import unittest

from readgrove.costs import least_reading, prices, right_prices
from readgrove.counts import parting, rows_of_length, tree_count
from readgrove.desk import Desk
from readgrove.groves import grove, grove_count, ring, tree_numbered
from readgrove.machines import both_let, is_walk, lets, paper_none, right_none
from readgrove.mends import fewest_mends, is_mend, mend_paper, mended, right_mend_paper
from readgrove.nexts import next_words, shortest_rows, way_on
from readgrove.plainer import back_tree, no_empty, no_single, twos
from readgrove.readings import paper_against, reading, right_paper
from readgrove.spans import cuts, facts
from readgrove.texts import read_grammar, read_tree, shown_grammar, shown_tree, signs, text_grammar
from tests.samples import GRAMMARS
from tests.trials import EVEN, FIXED, drawn_grammars, drawn_machines, rows_for


def spoil(told):
    """Does away with every list in what was told."""
    if isinstance(told, (list, tuple)):
        for one in told:
            spoil(one)
    if isinstance(told, list):
        told.append("spoiled")
        told.reverse()
        told[1:] = []


def has_truth(told):
    """Whether a whole number in what was told is a truth."""
    if isinstance(told, (list, tuple)):
        return any(has_truth(one) for one in told)
    return isinstance(told, bool)


def asked_of_row(grammar, row):
    """Tuples (function, arguments)."""
    known = facts(grammar, row)
    return [
        (facts, [grammar, row]),
        (cuts, [grammar, row, 0, 0, len(row), known]),
        (reading, [grammar, row]),
        (right_paper, [grammar, row, known]),
        (paper_against, [grammar, row]),
        (grove, [grammar, row]),
        (ring, [grammar, grove(grammar, row)]),
        (grove_count, [grammar, row]),
        (least_reading, [grammar, row]),
        (prices, [grammar, row]),
        (right_prices, [grammar, row, prices(grammar, row)]),
    ] + ([(tree_numbered, [grammar, row, 0])] if grove_count(grammar, row) else [])


def asked_of_mends(grammar, row):
    steps = (fewest_mends(grammar, row) or (0, [("keep", "a"), ("put", "b"), ("swap", "c", "d"), ("drop", "e")]))[1]
    return [
        (next_words, [grammar, row]),
        (way_on, [grammar, row]),
        (fewest_mends, [grammar, row]),
        (mended, [steps]),
        (is_mend, [row, steps]),
        (mend_paper, [grammar, row]),
        (right_mend_paper, [grammar, row, mend_paper(grammar, row)]),
    ]


def asked_of_grammar(grammar):
    told = [(shortest_rows, [grammar]), (no_empty, [grammar]), (twos, [grammar])]
    plain = no_empty(grammar)
    told.append((no_single, [plain[0]]))
    tree = reading(plain[0], way_on(grammar, []) or [])
    if tree is not None:
        told.append((back_tree, [plain[1], tree]))
    return told


def asked_of_machine(grammar, machine, row):
    return [
        (lets, [machine, row]),
        (is_walk, [machine, row, [0] * (len(row) + 1)]),
        (both_let, [grammar, machine]),
        (paper_none, [grammar, machine]),
        (right_none, [grammar, machine, paper_none(grammar, machine) or []]),
    ]


def asked_of_texts(grammar):
    told = [
        (tree_count, [grammar, grammar[0][0], 3]),
        (rows_of_length, [grammar, 3]),
        (parting, [grammar, EVEN, 4]),
        (shown_grammar, [grammar]),
        (read_grammar, [shown_grammar(grammar)]),
        (signs, [shown_grammar(grammar)]),
        (text_grammar, []),
    ]
    tree = reading(grammar, way_on(grammar, []) or [])
    if tree is not None:
        told += [(shown_tree, [grammar, tree]), (read_tree, [grammar, shown_tree(grammar, tree)])]
    return told


TRUTHS = (right_paper, right_prices, is_mend, right_mend_paper, lets, is_walk, right_none)


SOME = FIXED + GRAMMARS + drawn_grammars()[:12]


class Kept(unittest.TestCase):
    def looked_at(self, function, arguments):
        before = copy.deepcopy(arguments)
        told = function(*arguments)
        self.assertEqual(arguments, before)
        self.assertEqual(has_truth(told), function in TRUTHS, told)
        first = copy.deepcopy(told)
        again = function(*arguments)
        self.assertEqual(again, first)
        spoil(again)
        self.assertEqual(told, first)
        self.assertEqual(arguments, before)
        self.assertEqual(function(*arguments), first)
        spoil(arguments)
        self.assertEqual(told, first)
        self.assertEqual(function(*before), first)

    def all_looked_at(self, asked):
        for function, arguments in asked:
            with self.subTest(function.__name__, arguments=arguments):
                self.looked_at(function, copy.deepcopy(arguments))

    def test_rows(self):
        for grammar in SOME:
            for row in rows_for(grammar, 4, 2):
                self.all_looked_at(asked_of_row(list(grammar), row))

    def test_mends(self):
        for grammar in SOME:
            for row in rows_for(grammar, 4, 2):
                self.all_looked_at(asked_of_mends(list(grammar), row))

    def test_grammars(self):
        for grammar in SOME:
            self.all_looked_at(asked_of_grammar(list(grammar)))

    def test_machines(self):
        for grammar in SOME[:12]:
            for machine in drawn_machines()[:6]:
                self.all_looked_at(asked_of_machine(list(grammar), machine, ["a", "b"]))

    def test_texts(self):
        for grammar in SOME:
            self.all_looked_at(asked_of_texts(list(grammar)))

    def test_desk(self):
        desk = Desk()
        desk.told("rule S = a")
        self.assertEqual([desk.told("read a"), desk.told("read b"), desk.told("read a")],
                         ["reading S(a)", "none by 0", "reading S(a)"])


if __name__ == "__main__":
    unittest.main()
