import unittest

from readgrove.costs import least_reading, prices, right_prices
from readgrove.trees import is_reading, tree_cost
from tests.trials import (
    BRACKETS, EMPTY_TWICE, EVEN, NOTHING, ONE_RING, THREE_RING, all_grammars, has_ring, is_name, reads, rows_for,
    slow_cuts, slow_facts, slow_grove, slow_prices, slow_trees, spans, top_of,
)

GREAT = 10 ** 60 - 1


def slow_right(grammar, row, told):
    """[19], word by word."""
    if len({fact for fact, price in told}) < len(told):
        return False
    held = dict(told)
    for number, rule in enumerate(grammar):
        for i, j in spans(row):
            for cut in slow_cuts(grammar, row, number, i, j, held):
                below = [held[(part, cut[k], cut[k + 1])] for k, part in enumerate(rule[1]) if is_name(part)]
                if (rule[0], i, j) not in held or held[(rule[0], i, j)] > rule[2] + sum(below):
                    return False
    return True


class Least(unittest.TestCase):
    """[18]"""

    def test_trial(self):
        for grammar in all_grammars():
            for row in rows_for(grammar, 5, 4):
                told = least_reading(grammar, row)
                least = slow_prices(grammar, row).get(top_of(grammar, row))
                if told is None:
                    self.assertIsNone(least)
                    continue
                self.assertEqual(told[0], least)
                self.assertIs(type(told), tuple)
                self.assertTrue(is_reading(grammar, row, told[1]))
                self.assertEqual(tree_cost(grammar, told[1]), least)

    def test_of_all_that_can_be_listed(self):
        seen = 0
        for grammar in all_grammars():
            for row in rows_for(grammar, 4, 4):
                told = slow_grove(grammar, row)
                if told and not has_ring(grammar, told):
                    seen += 1
                    trees = slow_trees(grammar, top_of(grammar, row), dict(told))
                    costs = [tree_cost(grammar, tree) for tree in trees]
                    self.assertEqual(least_reading(grammar, row)[0], min(costs))
        self.assertGreater(seen, 100)

    def test_by_hand(self):
        self.assertEqual(least_reading(ONE_RING, ["a"]), (2, (1, ("a",))))
        self.assertEqual(least_reading(EVEN, []), (0, (0, ())))
        self.assertEqual(least_reading(THREE_RING, ["b"])[0], 7)
        self.assertIsNone(least_reading(EVEN, ["a"]))
        self.assertIsNone(least_reading(NOTHING, []))

    def test_the_long_way_is_the_cheap_one(self):
        grammar = [("S", ("a", "b"), 9), ("S", ("A", "B"), 1), ("A", ("C",), 1), ("C", ("a",), 1), ("B", ("b",), 1),
                   ("S", ("S",), 0), ("C", ("A",), 0)]
        self.assertEqual(least_reading(grammar, ["a", "b"]), (4, (1, ((2, ((3, ("a",)),)), (4, ("b",))))))

    def test_costs_of_0_and_of_sixty_figures(self):
        free = [("S", ("S", "S"), 0), ("S", (), 0), ("S", ("a",), 0), ("S", ("a",), 1)]
        self.assertEqual(least_reading(free, ["a"] * 16)[0], 0)
        dear = [("S", ("S", "S"), GREAT), ("S", ("a",), GREAT), ("S", ("a", "S"), GREAT - 1)]
        told = least_reading(dear, ["a"] * 16)
        self.assertEqual(told[0], 16 * GREAT - 15)
        self.assertEqual(tree_cost(dear, told[1]), told[0])
        near = [("S", ("a",), GREAT), ("S", ("A",), 1), ("A", ("a",), GREAT - 2)]
        self.assertEqual(least_reading(near, ["a"]), (GREAT - 1, (1, ((2, ("a",)),))))


class Prices(unittest.TestCase):
    """[19]"""

    def test_told(self):
        for grammar in all_grammars():
            for row in rows_for(grammar, 5, 4):
                told = prices(grammar, row)
                self.assertIs(right_prices(grammar, row, told), True)
                held = dict(told)
                self.assertEqual(len(held), len(told))
                least = least_reading(grammar, row)
                self.assertEqual(held.get(top_of(grammar, row)), least[0] if least else None)
                self.assertEqual(top_of(grammar, row) in held, reads(grammar, row))

    def test_changed(self):
        seen = {True: 0, False: 0}
        for grammar in all_grammars(30):
            for row in rows_for(grammar, 3, 3):
                told = prices(grammar, row)
                changed = [told, told[::-1], [], told + told[:1]]
                for k in range(len(told)):
                    fact, price = told[k]
                    changed += [told[:k] + [(fact, price + by)] + told[k + 1:] for by in (1, -1, -10 ** 59, GREAT)]
                    changed += [told[:k] + told[k + 1:], told + [(fact, price - 1)], [(fact, price)] + told]
                known = slow_facts(grammar, row)
                for rule in grammar:
                    more = [(rule[0], i, j) for i, j in spans(row) if (rule[0], i, j) not in known]
                    changed += [told + [(fact, price)] for fact in more for price in (0, -5, GREAT)]
                for other in changed:
                    right = slow_right(grammar, row, other)
                    seen[right] += 1
                    self.assertIs(right_prices(grammar, row, other), right, (grammar, row, other))
        self.assertGreater(min(seen.values()), 500)

    def test_lower_prices_may_be_right(self):
        told = prices(BRACKETS, ["a", "a"])
        self.assertEqual(told, [(("S", 0, 1), 0), (("S", 0, 2), 1), (("S", 1, 2), 0)])
        self.assertIs(right_prices(BRACKETS, ["a", "a"], [(("S", 0, 1), 0), (("S", 0, 2), -7), (("S", 1, 2), 0)]), True)
        self.assertIs(right_prices(BRACKETS, ["a", "a"], [(("S", 0, 1), -1), (("S", 0, 2), 1), (("S", 1, 2), 0)]), False)
        self.assertIs(right_prices(BRACKETS, ["a", "a"], [(("S", 0, 1), -1), (("S", 0, 2), 0), (("S", 1, 2), 0)]), True)

    def test_facts_out_of_the_row(self):
        row = ["a", "a"]
        told = prices(BRACKETS, row)
        others = [("S", 2, 3), ("S", -1, 0), ("S", 2, 1), ("T", 0, 2), ("a", 0, 1), ("S", 0, 3), ("S", 7, 7), ("a", 1, 2)]
        for other in others:
            for price in (0, 1, -10 ** 59):
                with self.subTest(other=other, price=price):
                    self.assertIs(right_prices(BRACKETS, row, told + [(other, price)]), True)
                    self.assertIs(right_prices(BRACKETS, row, [(other, price)] + told[1:]), False)
                    self.assertIs(right_prices(BRACKETS, row, told + [(other, price)] * 2), False)
                    self.assertIs(right_prices(BRACKETS, row, told + [(other, price), (other, price + 1)]), False)
        self.assertIs(right_prices(BRACKETS, row, told + [(other, 0) for other in others]), True)

    def test_told_twice(self):
        told = prices(EMPTY_TWICE, ["a"])
        for fact, price in told:
            for other in (price, price - 1, price + 1):
                self.assertIs(right_prices(EMPTY_TWICE, ["a"], told + [(fact, other)]), False)

    def test_no_list(self):
        self.assertIs(right_prices([("S", ("S",), 0)], ["a"], []), True)
        self.assertEqual(prices([("S", ("S",), 0)], ["a"]), [])
        self.assertIs(right_prices(EVEN, [], []), False)


if __name__ == "__main__":
    unittest.main()
