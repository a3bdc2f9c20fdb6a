import unittest

from readgrove.counts import parting, rows_of_length, tree_count
from readgrove.errors import TooMany
from readgrove.grammars import names
from tests.trials import (
    BRACKETS, EMPTY_TWICE, EVEN, NOTHING, ONE_RING, THREE_RING, TWO_RING, UNFRUITFUL, all_grammars, all_rows, brackets,
    has_ring, reads, slow_grove, slow_trees, words_in,
)

FIVE_HUNDRED = [("S", ("A", "A", "B"), 0)] + [("A", (w,), 0) for w in "abcdefghij"] + [("B", (w,), 0) for w in "vwxyz"]
ONE_MORE = FIVE_HUNDRED + [("S", ("z", "z", "z"), 0)]


def slow_count(grammar, name, length):
    """All trees of all rows of the length, listed."""
    count = 0
    for row in all_rows(words_in(grammar), length):
        if len(row) == length:
            grove = slow_grove(grammar, row, name)
            if grove and has_ring(grammar, grove):
                return None
            count += len(slow_trees(grammar, (name, 0, length), dict(grove))) if grove else 0
    return count


def few_words(count):
    return [grammar for grammar in all_grammars(count) if len(words_in(grammar)) <= 3]


class Trees(unittest.TestCase):
    """[28]"""

    def test_listed(self):
        seen = {}
        for grammar in few_words(60):
            for name in names(grammar):
                for length in range(4):
                    told = tree_count(grammar, name, length)
                    self.assertEqual(told, slow_count(grammar, name, length), (grammar, name, length))
                    kind = "endless" if told is None else "none" if told == 0 else "some"
                    seen[kind] = seen.get(kind, 0) + 1
        self.assertGreater(min(seen[kind] for kind in ("endless", "none", "some")), 50)

    def test_great_counts(self):
        for length in range(40):
            self.assertEqual(tree_count(BRACKETS, "S", length), brackets(length) if length else 0)
        many = [("S", ("S", "S"), k) for k in range(30)] + [("S", ("a",), k) for k in range(10)]
        self.assertEqual(tree_count(many, "S", 16), brackets(16) * 30 ** 15 * 10 ** 16)
        self.assertEqual(tree_count([("S", ("a", "S"), 0), ("S", ("b", "S"), 0), ("S", (), 0)], "S", 100), 2 ** 100)

    def test_without_end(self):
        self.assertIsNone(tree_count(ONE_RING, "S", 1))
        self.assertEqual(tree_count(ONE_RING, "S", 0), 0)
        self.assertEqual(tree_count(ONE_RING, "S", 2), 0)
        self.assertIsNone(tree_count(TWO_RING, "A", 1))
        self.assertIsNone(tree_count(EMPTY_TWICE, "S", 0))
        self.assertIsNone(tree_count(EMPTY_TWICE, "S", 5))
        self.assertIsNone(tree_count(THREE_RING, "B", 1))
        self.assertEqual(tree_count(THREE_RING, "E", 0), 1)
        self.assertIsNone(tree_count([("S", ("a", "A"), 0), ("A", ("A",), 0), ("A", (), 0)], "S", 1))

    def test_rings_of_names_without_a_tree_do_not_count(self):
        grammar = [("S", ("a",), 0), ("S", ("T",), 0), ("T", ("T",), 0), ("S", ("S", "U"), 0), ("U", ("U", "a"), 0)]
        self.assertEqual([tree_count(grammar, "S", length) for length in range(3)], [0, 1, 0])

    def test_names_without_a_tree(self):
        for length in range(5):
            self.assertEqual(tree_count(NOTHING, "S", length), 0)
            self.assertEqual(tree_count(UNFRUITFUL, "T", length), 0)
            self.assertEqual(tree_count(NOTHING, "T", length), int(length == 1))

    def test_kind(self):
        self.assertIs(type(tree_count(BRACKETS, "S", 1)), int)
        self.assertIs(type(tree_count(BRACKETS, "S", 0)), int)


class Rows(unittest.TestCase):
    """[29]"""

    def test_trial(self):
        for grammar in few_words(60):
            for length in range(5):
                read = [row for row in all_rows(words_in(grammar), length) if len(row) == length and reads(grammar, row)]
                self.assertEqual(rows_of_length(grammar, length), read, (grammar, length))

    def test_lengths_0_to_8(self):
        told = [len(rows_of_length(EVEN, length)) for length in range(9)]
        self.assertEqual(told, [1, 0, 2, 0, 4, 0, 8, 0, 16])
        self.assertEqual(rows_of_length(BRACKETS, 8), [["a"] * 8])
        self.assertEqual(rows_of_length(EMPTY_TWICE, 0), [[]])
        self.assertEqual(rows_of_length(NOTHING, 0), [])
        free = [("S", ("a", "S"), 0), ("S", ("b", "S"), 0), ("S", (), 0), ("S", ("S", "S"), 0)]
        self.assertEqual(len(rows_of_length(free, 8)), 256)

    def test_sorted_word_by_word(self):
        grammar = [("S", ("b", "a"), 0), ("S", ("ab", "a"), 0), ("S", ("a", "c"), 0), ("S", ("a", "bb"), 0)]
        self.assertEqual(rows_of_length(grammar, 2), [["a", "bb"], ["a", "c"], ["ab", "a"], ["b", "a"]])

    def test_five_hundred_and_one_more(self):
        told = rows_of_length(FIVE_HUNDRED, 3)
        self.assertEqual(len(told), 500)
        self.assertEqual(told, sorted(told))
        with self.assertRaises(TooMany):
            rows_of_length(ONE_MORE, 3)
        self.assertEqual(rows_of_length(ONE_MORE, 2), [])
        self.assertEqual(rows_of_length(FIVE_HUNDRED + [("S", ("a", "a", "v"), 0)], 3), told)

    def test_many_trees_of_few_rows(self):
        self.assertEqual(rows_of_length([("S", ("S", "S"), k) for k in range(39)] + [("S", ("a",), 0)], 8), [["a"] * 8])

    def test_many_rows_of_a_name_that_is_not_used(self):
        letters = "abcdefghijklmnopqrstuvwxyz"
        many = [("S", ("a",), 0), ("T", ("T", "T"), 0)] + [("T", (w,), 0) for w in letters] + [("S", ("T", "U", "T"), 0)]
        many.append(("U", ("U",), 0))
        self.assertEqual(rows_of_length(many, 8), [])
        self.assertEqual(rows_of_length(many, 1), [["a"]])
        used = many + [("S", ("T", "b"), 0)]
        self.assertEqual(len(rows_of_length(used, 2)), 26)
        with self.assertRaises(TooMany):
            rows_of_length(used, 3)

    def test_below_0(self):
        for grammar in (EVEN, EMPTY_TWICE, BRACKETS):
            self.assertEqual(rows_of_length(grammar, -1), [])
            self.assertEqual(tree_count(grammar, "S", -1), 0)
            self.assertIsNone(parting(grammar, NOTHING, -1))

    def test_above_eight(self):
        for grammar in (EVEN, NOTHING, BRACKETS, [("S", (), 0)]):
            for length in (9, 10, 16, 10 ** 59):
                with self.assertRaises(TooMany):
                    rows_of_length(grammar, length)


class Parting(unittest.TestCase):
    """[29]"""

    def test_trial(self):
        some = [grammar for grammar in few_words(40) if len(words_in(grammar)) <= 2]
        seen = {}
        for one, other in zip(some, some[1:] + some[:1]):
            words = sorted(set(words_in(one) + words_in(other)))
            rows = [row for row in all_rows(words, 3) if reads(one, row) != reads(other, row)]
            told = parting(one, other, 3)
            self.assertEqual(told, rows[0] if rows else None, (one, other))
            self.assertEqual(parting(other, one, 3), told)
            size = None if told is None else len(told)
            seen[size] = seen.get(size, 0) + 1
        self.assertGreater(len(seen), 2)

    def test_at_the_first_length_at_a_later_one_and_none(self):
        self.assertEqual(parting(EVEN, BRACKETS, 5), [])
        longer = EVEN + [("S", ("a", "b", "a", "b"), 0), ("S", ("b", "a", "b", "a"), 0)]
        self.assertIsNone(parting(EVEN, longer, 3))
        self.assertEqual(parting(EVEN, longer, 4), ["a", "b", "a", "b"])
        self.assertEqual(parting(longer, EVEN, 8), ["a", "b", "a", "b"])
        self.assertIsNone(parting(EVEN, list(reversed(EVEN)), 8))
        self.assertEqual(parting([("S", ("b",), 0), ("S", ("c",), 0)], [("S", ("c",), 0), ("S", ("a",), 0)], 1), ["a"])
        self.assertIsNone(parting([("S", ("b",), 0)], [("S", ("c",), 0)], 0))

    def test_refused_at_a_length_that_is_looked_at(self):
        self.assertIsNone(parting(FIVE_HUNDRED, ONE_MORE, 2))
        for one, other in ((FIVE_HUNDRED, ONE_MORE), (ONE_MORE, FIVE_HUNDRED), (ONE_MORE, ONE_MORE)):
            with self.assertRaises(TooMany):
                parting(one, other, 3)
        with self.assertRaises(TooMany):
            parting(EVEN, EVEN, 9)
        with self.assertRaises(TooMany):
            parting(NOTHING, [("S", ("S",), 0)], 10 ** 59)

    def test_not_refused_where_the_parting_is_found_ahead(self):
        self.assertEqual(parting(ONE_MORE, FIVE_HUNDRED + [("S", ("a",), 0)], 8), ["a"])
        self.assertEqual(parting(EVEN, BRACKETS, 100), [])
        self.assertEqual(parting(FIVE_HUNDRED, FIVE_HUNDRED + [("S", ("a",) * 4, 0)], 10 ** 59), ["a"] * 4)


if __name__ == "__main__":
    unittest.main()
