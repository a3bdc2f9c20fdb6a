import itertools
import unittest

from readgrove.mends import fewest_mends, is_mend, mend_paper, mended, right_mend_paper
from readgrove.trees import is_reading, row_of
from tests.samples import TALK
from tests.trials import (
    BRACKETS, EMPTY_TWICE, EVEN, NOTHING, THREE_RING, UNFRUITFUL, all_grammars, all_rows, apart, is_name, reads,
    rows_for, slow_fruitful, spans, top_of, words_in,
)


def slow_sum(row, held, rule, cut):
    """What [23] tells of a rule and its numbers; None where a name's fact is not in the paper."""
    told = 0
    for k, part in enumerate(rule[1]):
        between = row[cut[k]:cut[k + 1]]
        if is_name(part):
            if (part, cut[k], cut[k + 1]) not in held:
                return None
            told += held[(part, cut[k], cut[k + 1])]
        else:
            told += 1 if not between else len(between) - (part in between)
    return told


def slow_right(grammar, row, paper):
    """[23], word by word."""
    places = range(len(row) + 1)
    wanted = sorted((name, i, j) for name in slow_fruitful(grammar) for i, j in spans(row))
    if sorted(fact for fact, number in paper) != wanted:
        return False
    held = dict(paper)
    for rule in grammar:
        for i, j in spans(row):
            if not rule[1]:
                if held[(rule[0], i, j)] > j - i:
                    return False
                continue
            for middle in itertools.combinations_with_replacement(places, len(rule[1]) - 1):
                cut = (i,) + middle + (j,)
                if list(cut) == sorted(cut):
                    told = slow_sum(row, held, rule, cut)
                    if told is not None and held[(rule[0], i, j)] > told:
                        return False
    return True


class Steps(unittest.TestCase):
    """[22]: steps, what they go through and what they tell."""

    STEPS = [("keep", "a"), ("drop", "b"), ("put", "c"), ("swap", "d", "e"), ("keep", "f"), ("put", "g")]

    def test_mended(self):
        self.assertEqual(mended(self.STEPS), ["a", "c", "e", "f", "g"])
        self.assertEqual(mended([]), [])
        self.assertEqual(mended([("drop", "a")]), [])

    def test_is_mend(self):
        self.assertIs(is_mend(["a", "b", "d", "f"], self.STEPS), True)
        self.assertIs(is_mend([], []), True)
        self.assertIs(is_mend([], [("put", "a"), ("put", "b")]), True)

    def test_is_none(self):
        wrong = [[], ["a"], ["a", "b", "d"], ["a", "b", "d", "f", "g"], ["a", "b", "e", "f"], ["a", "b", "c", "d", "f"],
                 ["b", "a", "d", "f"], ["a", "b", "d", "f", "f"], ["a", "c", "e", "f", "g"], ["b", "d", "f"]]
        for row in wrong:
            with self.subTest(row):
                self.assertIs(is_mend(row, self.STEPS), False)
        self.assertIs(is_mend(["a"], []), False)
        self.assertIs(is_mend(["a"], [("put", "a")]), False)
        self.assertIs(is_mend(["b"], [("swap", "a", "b")]), False)
        self.assertIs(is_mend([], [("drop", "a")]), False)
        self.assertIs(is_mend([], [("keep", "a")]), False)


class Fewest(unittest.TestCase):
    """[22]"""

    def looked_at(self, grammar, row):
        told = fewest_mends(grammar, row)
        count, steps, tree = told
        self.assertIs(type(told), tuple)
        self.assertIs(type(steps), list)
        self.assertTrue(is_mend(row, steps))
        self.assertTrue(is_reading(grammar, mended(steps), tree))
        self.assertEqual(row_of(tree), mended(steps))
        self.assertEqual(count, sum(step[0] != "keep" for step in steps))
        for step in steps:
            self.assertIn((step[0], len(step)), [("keep", 2), ("drop", 2), ("put", 2), ("swap", 3)])
        self.assertEqual(count == 0, reads(grammar, row))
        return count

    def test_by_hand(self):
        self.assertEqual(self.looked_at(EVEN, ["a", "b"]), 1)
        self.assertEqual(self.looked_at(EVEN, ["a"]), 1)
        self.assertEqual(self.looked_at(EVEN, ["c", "c", "c"]), 3)
        self.assertEqual(self.looked_at(BRACKETS, []), 1)
        self.assertEqual(self.looked_at(BRACKETS, ["b", "b"]), 2)
        self.assertEqual(self.looked_at(UNFRUITFUL, ["a"] * 4), 4)
        self.assertEqual(fewest_mends([("S", ("a",), 0)], ["a"]), (0, [("keep", "a")], (0, ("a",))))
        self.assertEqual(fewest_mends([("S", ("a",), 0)], ["b"]), (1, [("swap", "b", "a")], (0, ("a",))))
        self.assertEqual(fewest_mends([("S", ("a",), 0)], []), (1, [("put", "a")], (0, ("a",))))
        self.assertEqual(fewest_mends([("S", (), 0)], ["b", "a"]), (2, [("drop", "b"), ("drop", "a")], (0, ())))
        self.assertEqual(self.looked_at(TALK, ["the", "dog", "the", "cat"]), 1)

    def test_no_row_has_a_reading(self):
        for row in ([], ["a"], ["b"] * 3):
            self.assertIsNone(fewest_mends(NOTHING, row))
            self.assertIsNone(fewest_mends([("S", ("S",), 0)], row))

    def test_drops_ahead_between_and_behind(self):
        grammar = [("S", ("A", "B"), 0), ("A", ("a",), 0), ("B", ("b",), 0)]
        self.assertEqual(self.looked_at(grammar, ["x", "a", "x", "x", "b", "x"]), 4)
        self.assertEqual(self.looked_at(grammar, ["b", "a"]), 2)

    def test_trial(self):
        exact = 0
        for grammar in all_grammars():
            words = words_in(grammar)[:3]
            readable = [row for row in all_rows(words, 5 if len(words) < 3 else 4) if reads(grammar, row)]
            most = 5 if len(words) < 3 else 4
            for row in rows_for(grammar, 3, 4):
                if grammar[0][0] not in slow_fruitful(grammar):
                    self.assertIsNone(fewest_mends(grammar, row))
                    continue
                count = self.looked_at(grammar, row)
                if words != words_in(grammar):
                    continue
                least = min([apart(row, other) for other in readable], default=10 ** 6)
                # Rows that were not tried are longer, and so at least that far off.
                beyond = most + 1 - len(row)
                exact += least <= beyond
                self.assertTrue(count == least or beyond <= count < least, (grammar, row, count, least))
        self.assertGreater(exact, 100)

    def test_sixteen_words(self):
        self.assertEqual(self.looked_at(EVEN, ["a", "b"] * 8), 2)
        self.assertEqual(self.looked_at(EMPTY_TWICE, ["b"] * 16), 16)
        self.assertEqual(self.looked_at(THREE_RING, ["b"] * 16), 15)

    def test_rows_of_very_many_words(self):
        own = "SABCDEFG"
        grammar = [(name, (below,) * 4, 0) for name, below in zip(own, own[1:])] + [("G", ("a",), 0)]
        told = fewest_mends(grammar, ["a", "b"])
        self.assertEqual(told[0], 4 ** 7 - 1)
        self.assertEqual(len(mended(told[1])), 4 ** 7)


class Papers(unittest.TestCase):
    """[23]"""

    def test_told(self):
        for grammar in all_grammars():
            for row in rows_for(grammar, 4, 3):
                paper = mend_paper(grammar, row)
                self.assertIs(right_mend_paper(grammar, row, paper), True)
                held = dict(paper)
                fewest = fewest_mends(grammar, row)
                self.assertEqual(held.get(top_of(grammar, row)), fewest[0] if fewest else None)
                if len(row) <= 2:
                    self.assertTrue(slow_right(grammar, row, paper))

    def test_changed(self):
        seen = {True: 0, False: 0}
        for grammar in all_grammars(20):
            for row in rows_for(grammar, 2, 2):
                paper = mend_paper(grammar, row)
                changed = [paper[::-1], paper + paper[:1], paper[1:]]
                for k, (fact, number) in enumerate(paper):
                    for other in (number + 1, number - 1, -10 ** 59, 10 ** 59):
                        changed.append(paper[:k] + [(fact, other)] + paper[k + 1:])
                changed.append([(fact, 0) for fact, number in paper])
                for other in changed:
                    right = slow_right(grammar, row, other)
                    seen[right] += 1
                    self.assertIs(right_mend_paper(grammar, row, other), right, (grammar, row, other))
        self.assertGreater(min(seen.values()), 100)

    def test_one_fact_too_few_or_too_many(self):
        row = ["a", "b"]
        for grammar in (EVEN, UNFRUITFUL, NOTHING, TALK, THREE_RING):
            paper = mend_paper(grammar, row)
            self.assertIs(right_mend_paper(grammar, row, paper), True)
            for k, pair in enumerate(paper):
                self.assertIs(right_mend_paper(grammar, row, paper[:k] + paper[k + 1:]), False)
                self.assertIs(right_mend_paper(grammar, row, paper + [pair]), False)
                self.assertIs(right_mend_paper(grammar, row, paper + [(pair[0], pair[1] - 1)]), False)
            more = [("X", 0, 1), ("S", 0, 3), ("S", -1, 0), ("S", 1, 0), ("S", 3, 3), ("a", 0, 1)]
            for fact in more:
                for number in (0, 5, 10 ** 59):
                    self.assertIs(right_mend_paper(grammar, row, paper + [(fact, number)]), False)

    def test_name_that_is_not_fruitful(self):
        paper = mend_paper(UNFRUITFUL, ["a"])
        self.assertEqual({fact[0] for fact, number in paper}, {"S", "U"})
        for i, j in spans(["a"]):
            self.assertIs(right_mend_paper(UNFRUITFUL, ["a"], paper + [(("T", i, j), 0)]), False)
        whole = paper + [(("T", i, j), 0) for i, j in spans(["a"])]
        self.assertIs(right_mend_paper(UNFRUITFUL, ["a"], whole), False)

    def test_nothing_is_fruitful(self):
        self.assertEqual(mend_paper([("S", ("S",), 0)], ["a"]), [])
        self.assertIs(right_mend_paper([("S", ("S",), 0)], ["a"], []), True)
        self.assertIs(right_mend_paper([("S", (), 0)], [], []), False)
        self.assertEqual(mend_paper([("S", (), 0)], []), [(("S", 0, 0), 0)])


if __name__ == "__main__":
    unittest.main()
