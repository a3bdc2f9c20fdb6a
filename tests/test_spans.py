import random
import unittest

from readgrove.spans import cuts, facts
from tests.samples import TALK
from tests.trials import EMPTY_TWICE, EVEN, all_grammars, rows_for, slow_cuts, slow_facts, spans


class Facts(unittest.TestCase):
    """[9], [10]"""

    def test_told_by_hand(self):
        self.assertEqual(facts([("S", ("a", "S"), 0), ("S", ("b",), 0)], ["a", "a", "b"]),
                         [("S", 0, 3), ("S", 1, 3), ("S", 2, 3)])
        self.assertEqual(facts(TALK, ["the", "dog"]), [
            ("NP", 0, 2), ("N_1", 1, 2), ("S", 0, 2), ("VP", 0, 0), ("VP", 1, 1), ("VP", 2, 2),
        ])

    def test_row_without_words(self):
        self.assertEqual(facts(EVEN, []), [("S", 0, 0)])
        self.assertEqual(facts([("S", ("a",), 0), ("T", ("T",), 0)], []), [])
        self.assertEqual(facts([("S", ("T", "T"), 0), ("T", (), 0), ("U", ("S", "a"), 0)], []), [("S", 0, 0), ("T", 0, 0)])

    def test_nothing_holds(self):
        self.assertEqual(facts([("S", ("S",), 0)], ["a"]), [])
        self.assertEqual(facts([("S", ("a",), 0)], ["b", "c"]), [])

    def test_rules_without_parts_hold_everywhere(self):
        told = facts([("S", (), 0), ("S", ("S", "S", "S", "S"), 0)], ["a"] * 16)
        self.assertEqual(told, [("S", k, k) for k in range(17)])

    def test_against_the_least_set(self):
        for grammar in all_grammars():
            for row in rows_for(grammar, 5, 4):
                with self.subTest(grammar=grammar, row=row):
                    told = facts(grammar, row)
                    self.assertEqual(told, sorted(slow_facts(grammar, row)))
                    self.assertIs(type(told), list)

    def test_sorted_by_name_then_places(self):
        told = facts(EMPTY_TWICE, ["a"] * 12)
        self.assertEqual(told, [("S", i, j) for i, j in spans(["a"] * 12)])


class Cuts(unittest.TestCase):
    """[9], [11]"""

    def test_told_by_hand(self):
        known = [("S", 0, 1), ("S", 1, 3), ("S", 0, 2), ("S", 2, 3), ("S", 3, 3), ("S", 0, 3)]
        row = ["a", "a", "a"]
        grammar = [("S", ("S", "S"), 0), ("S", ("a",), 0), ("S", (), 0), ("S", ("S", "a"), 0)]
        self.assertEqual(cuts(grammar, row, 0, 0, 3, known), [(0, 1, 3), (0, 2, 3), (0, 3, 3)])
        self.assertEqual(cuts(grammar, row, 1, 1, 2, known), [(1, 2)])
        self.assertEqual(cuts(grammar, row, 1, 1, 3, known), [])
        self.assertEqual(cuts(grammar, row, 2, 2, 2, known), [(2,)])
        self.assertEqual(cuts(grammar, row, 2, 1, 2, known), [])
        self.assertEqual(cuts(grammar, row, 3, 0, 3, known), [(0, 2, 3)])

    def test_the_set_plays_its_part_and_not_what_holds(self):
        grammar = [("S", ("A", "b"), 0), ("A", ("a",), 0)]
        self.assertEqual(cuts(grammar, ["a", "b"], 0, 0, 2, []), [])
        self.assertEqual(cuts(grammar, ["b", "b"], 0, 0, 2, [("A", 0, 1)]), [(0, 1, 2)])

    def test_against_all_rows_of_numbers(self):
        for grammar in all_grammars(30):
            for row in rows_for(grammar, 4, 2):
                known = sorted(slow_facts(grammar, row))
                for some in (known, known[::2], known + [(rule[0], 0, len(row)) for rule in grammar]):
                    for number in range(len(grammar)):
                        for i, j in spans(row):
                            told = cuts(grammar, row, number, i, j, some)
                            self.assertEqual(told, slow_cuts(grammar, row, number, i, j, set(some)))

    def test_facts_that_are_none_of_the_row_play_no_part(self):
        grammar = [("S", ("S", "S"), 0), ("S", ("a",), 0), ("S", ("a", "S", "S"), 0), ("S", (), 0)]
        row = ["a", "a"]
        known = [("S", 0, 1), ("S", 1, 2)]
        others = [
            ("S", -1, 1), ("S", 1, 3), ("S", 2, 1), ("S", 1, 0), ("S", 0, 17), ("S", -2, -1), ("S", 3, 3), ("S", 3, 2),
            ("S", 2, 0), ("T", 0, 2), ("a", 0, 2), ("a", 1, 1), ("T", 1, 1), ("S", 0, -1), ("S", -1, 0), ("S", -1, -1),
        ]
        for number in range(4):
            for i, j in spans(row):
                told = slow_cuts(grammar, row, number, i, j, set(known))
                for some in (others + known, known + others, known * 3 + others * 2):
                    self.assertEqual(cuts(grammar, row, number, i, j, some), told)

    def test_order_of_the_set_plays_no_part(self):
        dice = random.Random(6)
        for grammar in all_grammars(30):
            for row in rows_for(grammar, 5, 2):
                known = [(name, i, j) for name in {rule[0] for rule in grammar} for i, j in spans(row) if dice.randrange(2)]
                dice.shuffle(known)
                for number in range(len(grammar)):
                    told = cuts(grammar, row, number, 0, len(row), known)
                    self.assertEqual(told, slow_cuts(grammar, row, number, 0, len(row), set(known)))

    def test_told_twice_in_the_set_told_once(self):
        grammar = [("S", ("S",), 0), ("S", ("S", "S"), 0)]
        self.assertEqual(cuts(grammar, ["a"], 0, 0, 1, [("S", 0, 1)] * 3), [(0, 1)])

    def test_row_without_words(self):
        self.assertEqual(cuts(EMPTY_TWICE, [], 0, 0, 0, [("S", 0, 0)]), [(0, 0, 0)])
        self.assertEqual(cuts(EMPTY_TWICE, [], 0, 0, 0, []), [])
        self.assertEqual(cuts(EMPTY_TWICE, [], 1, 0, 0, []), [(0,)])
        self.assertEqual(cuts(EMPTY_TWICE, [], 2, 0, 0, [("S", 0, 0)]), [])

    def test_the_wrong_way_about(self):
        for number in range(3):
            self.assertEqual(cuts(EMPTY_TWICE, ["a", "a"], number, 2, 1, [("S", 2, 1), ("S", 1, 2)]), [])

    def test_many_cuts(self):
        row = ["a"] * 16
        grammar = [("S", ("S", "S", "S", "S"), 0), ("S", (), 0)]
        known = [("S", i, j) for i, j in spans(row)]
        told = cuts(grammar, row, 0, 0, 16, known)
        self.assertEqual(len(told), 969)
        self.assertEqual(told, sorted(set(told)))


if __name__ == "__main__":
    unittest.main()
