import itertools
import unittest

from readgrove.nexts import next_words, shortest_rows, way_on
from tests.samples import TALK
from tests.trials import (
    EMPTY_TWICE, EVEN, NOTHING, UNFRUITFUL, all_grammars, all_rows, goes_on, reads, rows_for, slow_facts,
    slow_fruitful, words_in,
)


def doubled(levels, word="a"):
    """Names of which each is two of the next one, so that the first one's row has 2 ** (levels - 1) words."""
    own = "SABCDEFGHIJK"[:levels]
    return [(name, (below, below), 0) for name, below in zip(own, own[1:])] + [(own[-1], (word,), 0)]


class Shortest(unittest.TestCase):
    """[20]"""

    def test_by_hand(self):
        self.assertEqual(shortest_rows(TALK), [
            ("S", ["the", "cat"]), ("NP", ["the", "cat"]), ("N_1", ["cat"]), ("VP", []),
            ("N_22", ["cat", "cat", "dog", "cat"]),
        ])
        self.assertEqual(shortest_rows(EVEN), [("S", [])])

    def test_fruitful_or_not(self):
        self.assertEqual(shortest_rows(NOTHING), [("T", ["b"])])
        self.assertEqual(shortest_rows(UNFRUITFUL), [("S", ["b"]), ("U", ["b", "a"])])
        self.assertEqual(shortest_rows([("S", ("S",), 0), ("T", ("S", "T"), 0)]), [])

    def test_order_of_the_names(self):
        self.assertEqual([name for name, row in shortest_rows([("Z", ("A",), 0), ("A", (), 0), ("M", (), 0)])],
                         ["Z", "A", "M"])

    def test_first_by_the_alphabet_word_by_word(self):
        self.assertEqual(shortest_rows([("S", ("b", "a"), 0), ("S", ("a", "z"), 0), ("S", ("ab", "a"), 0)]),
                         [("S", ["a", "z"])])
        self.assertEqual(shortest_rows([("S", ("b",), 0), ("S", ("ab",), 0), ("S", ("a", "a"), 0)]), [("S", ["ab"])])
        self.assertEqual(shortest_rows([("S", ("A", "B"), 0), ("S", ("B", "A"), 0), ("A", ("b",), 0), ("B", ("a",), 0)])[0],
                         ("S", ["a", "b"]))

    def test_first_by_the_alphabet_round_a_ring(self):
        grammar = [("S", ("A",), 0), ("S", ("c",), 0), ("A", ("B",), 0), ("B", ("S",), 0), ("B", ("E", "b", "E"), 0),
                   ("A", ("d",), 0), ("E", (), 0)]
        self.assertEqual(shortest_rows(grammar), [("S", ["b"]), ("A", ["b"]), ("B", ["b"]), ("E", [])])

    def test_fewer_words_go_ahead_of_the_alphabet(self):
        self.assertEqual(shortest_rows([("S", ("a", "a"), 0), ("S", ("z",), 0)]), [("S", ["z"])])
        self.assertEqual(shortest_rows([("S", ("a",), 0), ("S", (), 0)]), [("S", [])])

    def test_many_words(self):
        told = shortest_rows(doubled(8))
        self.assertEqual([(name, len(row)) for name, row in told],
                         [(name, 128 >> k) for k, name in enumerate("SABCDEFG")])
        two = doubled(8) + [("G", ("b",), 0)]
        self.assertEqual(shortest_rows(two)[0], ("S", ["a"] * 128))
        long = [("S", ("A", "A", "A", "B"), 0), ("A", ("B",) * 4, 0), ("B", ("C",) * 4, 0), ("C", ("b", "a", "b"), 0),
                ("C", ("b", "b", "a"), 0), ("C", ("a",) * 4, 0)]
        self.assertEqual(dict(shortest_rows(long))["S"], ["b", "a", "b"] * 52)

    def test_a_long_row_on_the_way_is_not_built(self):
        own = "SABCDEFGHIJK"
        grammar = [(name, (below,) * 4, 0) for name, below in reversed(list(zip(own, own[1:])))]
        grammar = [("K", ("a",) * 4, 0)] + grammar + [(name, ("b",), 0) for name in own]
        self.assertEqual(shortest_rows(grammar), [(name, ["b"]) for name in "KJIHGFEDCBAS"])

    def test_trial(self):
        for grammar in all_grammars():
            words = words_in(grammar)[:3]
            if words != words_in(grammar):
                continue
            told = dict(shortest_rows(grammar))
            self.assertEqual(set(told), slow_fruitful(grammar))
            for row in all_rows(words, 4):
                for name in {fact[0] for fact in slow_facts(grammar, row) if fact[1:] == (0, len(row))}:
                    self.assertLessEqual((len(told[name]), told[name]), (len(row), row))
            for name, row in told.items():
                if len(row) <= 6:
                    self.assertIn((name, 0, len(row)), slow_facts(grammar, row))


class Next(unittest.TestCase):
    """[21]"""

    def test_by_hand(self):
        self.assertEqual(next_words(TALK, []), ["the"])
        self.assertEqual(next_words(TALK, ["the"]), ["cat", "dog"])
        self.assertEqual(next_words(TALK, ["the", "dog"]), ["and", "sees"])
        self.assertEqual(next_words(TALK, ["dog"]), [])
        self.assertEqual(next_words(NOTHING, []), [])
        self.assertEqual(next_words([("S", (), 0)], []), [])
        self.assertEqual(next_words([("S", ("a", "b"), 0)], ["a", "b"]), [])

    def test_what_can_not_be_ended_does_not_begin(self):
        self.assertEqual(next_words(UNFRUITFUL, []), ["b"])
        self.assertEqual(next_words(UNFRUITFUL, ["a"]), [])
        self.assertEqual(next_words([("S", ("a", "T"), 0), ("S", ("c", "b"), 0), ("T", ("T",), 0)], []), ["c"])

    def test_each_once(self):
        grammar = [("S", ("A", "b"), 0), ("S", ("a", "S"), 0), ("A", ("a",), 0), ("A", ("A", "a"), 0), ("A", (), 0)]
        self.assertEqual(next_words(grammar, ["a"]), ["a", "b"])

    def test_trial(self):
        for grammar in all_grammars():
            for row in rows_for(grammar, 4, 4):
                with self.subTest(grammar=grammar, row=row):
                    told = [word for word in words_in(grammar) if goes_on(grammar, row + [word])]
                    self.assertEqual(next_words(grammar, row), told)

    def test_beginnings_of_rows_with_readings(self):
        for grammar in all_grammars(40):
            for row in rows_for(grammar, 6, 4, seed=9):
                if reads(grammar, row):
                    for k, word in enumerate(row):
                        self.assertIn(word, next_words(grammar, row[:k]))


class WayOn(unittest.TestCase):
    """[21]"""

    def test_by_hand(self):
        self.assertEqual(way_on(EVEN, ["a", "b"]), ["a", "b", "b", "a"])
        self.assertEqual(way_on(EVEN, ["a", "b", "b"]), ["a", "b", "b", "a"])
        self.assertEqual(way_on(EVEN, []), [])
        self.assertEqual(way_on([("S", ("a",), 0)], []), ["a"])
        self.assertIsNone(way_on([("S", ("a",), 0)], ["a", "a"]))
        self.assertIsNone(way_on(NOTHING, []))
        self.assertIsNone(way_on(UNFRUITFUL, ["a"]))
        self.assertEqual(way_on(EMPTY_TWICE, ["a"] * 16), ["a"] * 16)
        self.assertEqual(way_on(EVEN, ["a"] * 15), ["a"] * 16)
        self.assertEqual(way_on(EVEN, ["a"] * 15 + ["b"]), ["a"] * 15 + ["b", "b"] + ["a"] * 15)

    def test_two_hundred_words(self):
        self.assertEqual(way_on(doubled(8), ["a"] * 16), ["a"] * 128)
        self.assertEqual(way_on(doubled(8), []), ["a"] * 128)

    def test_trial(self):
        longer = 0
        for grammar in all_grammars():
            words = words_in(grammar)
            for row in rows_for(grammar, 4, 4):
                told = way_on(grammar, row)
                self.assertEqual(told is not None, goes_on(grammar, row))
                if told is None:
                    continue
                self.assertEqual(told[:len(row)], row)
                if len(told) <= 8:
                    self.assertTrue(reads(grammar, told))
                more = len(told) - len(row)
                longer += more > 0
                self.assertEqual(more == 0, reads(grammar, row))
                for size in range(min(more, 4)):
                    for rest in itertools.islice(itertools.product(words, repeat=size), 30):
                        self.assertFalse(reads(grammar, row + list(rest)))
        self.assertGreater(longer, 30)


if __name__ == "__main__":
    unittest.main()
