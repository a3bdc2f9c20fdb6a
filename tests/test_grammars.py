import copy
import unittest

from readgrove.errors import GroveError, NoGrammar
from readgrove.grammars import grammar_of, is_name, names, rules_of
from tests.samples import GRAMMARS, NEST, PAIRS, TALK

LETTERS = "ABCDEFGHIJKL"


def many_rules(count, of):
    """So many rules of so many names, the rules of each name standing apart."""
    kinds = [LETTERS[k] for k in range(of)]
    return [(kinds[k % of], (kinds[(k + 1) % of], "w") * (k % 3), k) for k in range(count)]


class Names(unittest.TestCase):
    """[5]: what a name is, what a word is."""

    def test_names(self):
        told = ["A", "Z", "S", "NP", "ABCDEFGH", "STUVWXYZ", "ZZZZZZZZ"]
        told += [name + end for name in list(told) for end in ("_0", "_7", "_12", "_007", "_9999", "_0000")]
        for name in told:
            with self.subTest(name):
                self.assertIs(is_name(name), True)

    def test_words(self):
        for word in ["a", "z", "s", "np", "abcdefgh", "stuvwxyz", "zzzzzzzz", "upa", "is"]:
            with self.subTest(word):
                self.assertIs(is_name(word), False)

    def test_texts_that_are_neither(self):
        for text in ["", "_", "_1", "A_", "A_x", "A_1_2", "A__1", "Aa", "aA", "a_1", "A1", "A 1", "1", "A_1 ", "A_B"]:
            with self.subTest(text):
                self.assertIs(is_name(text), False)


class Grammars(unittest.TestCase):
    """[5]: which lists of rules are grammars."""

    def good(self, rules, told_names):
        before = copy.deepcopy(rules)
        grammar = grammar_of(rules)
        self.assertEqual(grammar, before)
        self.assertIs(type(grammar), list)
        self.assertEqual(rules, before)
        self.assertEqual(names(grammar), told_names)

    def refused(self, rules):
        before = copy.deepcopy(rules)
        with self.assertRaises(NoGrammar) as caught:
            grammar_of(rules)
        self.assertIsInstance(caught.exception, GroveError)
        self.assertEqual(rules, before)

    def test_samples(self):
        self.good(TALK, ["S", "NP", "N_1", "VP", "N_22"])
        self.good(NEST, ["A"])
        self.good(PAIRS, ["P", "Q", "R"])

    def test_one_rule(self):
        self.good([("S", (), 0)], ["S"])
        self.good([("ABCDEFGH", ("abcdefgh",), 0)], ["ABCDEFGH"])
        self.good([("S", ("S",), 0)], ["S"])

    def test_twelve_names_and_forty_rules(self):
        self.good(many_rules(40, 12), list(LETTERS))
        self.good(many_rules(12, 12), list(LETTERS))
        self.good(many_rules(40, 1), ["A"])

    def test_names_in_the_order_in_which_they_are_first_a_rules(self):
        rules = [("Z", ("M", "A"), 0), ("M", ("A",), 0), ("Z", (), 0), ("A", (), 0), ("M", (), 0)]
        self.good(rules, ["Z", "M", "A"])
        self.good(list(reversed(rules)), ["M", "A", "Z"])

    def test_names_with_figures(self):
        ends = ["_0", "_12", "_012", "_1234", ""]
        rules = [("S" + end, ("a",), 0) for end in ends] + [("T", ("S_12", "S", "S_1234"), 0)]
        self.good(rules, ["S_0", "S_12", "S_012", "S_1234", "S", "T"])

    def test_parts_none_to_four(self):
        for count in range(5):
            self.good([("S", ("S", "a", "S", "b")[:count], 0)], ["S"])

    def test_costs(self):
        for cost in [0, 1, 10 ** 59, 10 ** 60 - 1]:
            self.good([("S", ("a",), cost)], ["S"])

    def test_words_that_are_names_but_for_their_size(self):
        self.good([("A", ("a", "b"), 0)], ["A"])

    def test_somewhat_beyond_the_bounds(self):
        self.good(many_rules(41, 12), list(LETTERS))
        self.good([("S", ("a", "S", "c", "S", "e"), 10 ** 61)], ["S"])
        self.good([("ABCDEFGHI", ("abcdefghi", "ABCDEFGHI"), 0)], ["ABCDEFGHI"])

    def test_no_rules(self):
        self.refused([])

    def test_cost_below_0(self):
        for cost in [-1, -2, -10 ** 59]:
            self.refused([("S", ("a",), cost)])
            self.refused([("S", ("a",), 0), ("S", (), cost)])
            self.refused([("S", ("a",), cost), ("S", (), 10 ** 59)])

    def test_part_of_which_no_rule_is(self):
        self.refused([("S", ("T",), 0)])
        self.refused([("S", (), 0), ("S", ("a", "S", "b", "T"), 0)])
        self.refused([("S", ("T", "S"), 0), ("S", (), 0)])

    def test_part_that_is_almost_a_name(self):
        rules = [("NP", ("a",), 0), ("NP_1", (), 0), ("N_22", (), 0), ("ABCDEFG", (), 0)]
        self.good(rules, ["NP", "NP_1", "N_22", "ABCDEFG"])
        near = ["N", "P", "NPP", "NQ", "MP", "PN", "NP_2", "NP_11", "NP_01", "NP_0", "N_1", "N_2", "N_222", "N_022"]
        near += ["ABCDEFGH", "ABCDEF", "ABCDEFH", "ABCDEFG_1"]
        for part in near:
            with self.subTest(part):
                self.refused(rules + [("NP", ("a", part), 0)])
                self.refused([("NP", (part,), 0)] + rules)


class Rules(unittest.TestCase):
    """[6]: the rules of a name."""

    def test_names_whose_rules_stand_apart(self):
        told = [rules_of(TALK, name) for name in ("S", "NP", "N_1", "VP", "N_22")]
        self.assertEqual(told, [[0, 7], [1, 4], [2, 5], [3, 6], [8]])
        self.assertEqual([rules_of(PAIRS, name) for name in "PQR"], [[0, 3, 7], [1, 4, 6], [2, 5]])

    def test_one_name(self):
        self.assertEqual(rules_of(NEST, "A"), [0, 1, 2, 3, 4, 5, 6])

    def test_forty_rules(self):
        grammar = grammar_of(many_rules(40, 12))
        for k, name in enumerate(LETTERS):
            self.assertEqual(rules_of(grammar, name), list(range(k, 40, 12)))

    def test_name_that_no_rule_is_of(self):
        for name in ["T", "N", "N_2", "N_11", "SS", "NP_1", "V"]:
            self.assertEqual(rules_of(TALK, name), [])


class Kept(unittest.TestCase):
    """[2]: nothing handed in is changed or kept, every told list is the asker's own."""

    def test_told_lists_are_new(self):
        for rules in GRAMMARS:
            grammar = grammar_of(rules)
            before = copy.deepcopy(grammar)
            asked = [lambda: names(grammar), lambda: rules_of(grammar, grammar[0][0]), lambda: rules_of(grammar, "NO")]
            for ask in asked:
                told = ask()
                first = list(told)
                told.append("X")
                told.reverse()
                self.assertEqual(ask(), first)
                told.clear()
                self.assertEqual(ask(), first)
            self.assertEqual(grammar, before)

    def test_told_grammar_is_apart_from_the_rules_handed_in(self):
        rules = list(TALK)
        grammar = grammar_of(rules)
        rules.append(("X", (), 0))
        rules[0] = ("Y", (), 0)
        self.assertEqual(grammar, TALK)
        self.assertEqual(names(grammar), ["S", "NP", "N_1", "VP", "N_22"])
        other = list(TALK)
        told = grammar_of(other)
        told.clear()
        self.assertEqual(other, TALK)
        self.assertEqual(grammar_of(other), TALK)

    def test_grammar_of_a_grammar_is_a_new_list(self):
        grammar = grammar_of(TALK)
        again = grammar_of(grammar)
        again.pop()
        self.assertEqual(grammar, TALK)

    def test_what_is_asked_of_one_grammar_plays_no_part_for_another(self):
        grammar = grammar_of(TALK)
        self.assertEqual(rules_of(grammar, "S"), [0, 7])
        grammar.insert(0, ("T", (), 0))
        self.assertEqual(rules_of(grammar, "S"), [1, 8])
        self.assertEqual(names(grammar), ["T", "S", "NP", "N_1", "VP", "N_22"])

    def test_whole_numbers_are_no_truths(self):
        for number in rules_of(TALK, "S") + rules_of(TALK, "NP"):
            self.assertIs(type(number), int)


if __name__ == "__main__":
    unittest.main()
