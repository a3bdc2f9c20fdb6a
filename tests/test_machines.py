import itertools
import unittest

from readgrove.machines import both_let, is_walk, lets, paper_none, right_none
from readgrove.trees import is_reading, row_of
from tests.trials import (
    BRACKETS, EMPTY_TWICE, EVEN, FIXED, NOTHING, all_rows, drawn_grammars, drawn_machines, is_name, reads, slow_lets,
)

# Words a and b by turns; a room without a way out; several arrows of one word; a row of eleven words at least.
TURNS = (2, [(0, "a", 1), (1, "b", 0)], [0])
FORK = (4, [(0, "a", 1), (0, "a", 2), (1, "a", 1), (2, "b", 3), (3, "b", 0), (0, "b", 0)], [3])
CHAIN = (12, [(k, "a", k + 1) for k in range(11)], [11])
BARE = (1, [], [0])
NO_ENDS = (2, [(0, "a", 1), (1, "a", 0)], [])
NO_ARROWS = (3, [], [1, 2])
TWICE = (2, [(0, "a", 1), (0, "a", 1), (0, "a", 0)], [1, 1])
MACHINES = [TURNS, FORK, BARE, NO_ENDS, NO_ARROWS, TWICE] + drawn_machines()


def slow_right(grammar, machine, paper):
    """[27], word by word."""
    rooms, arrows, ends = machine
    held = set(paper)
    for name, parts, _ in grammar:
        for walk in itertools.product(range(rooms), repeat=len(parts) + 1):
            steps = zip(parts, walk, walk[1:])
            if all((part, r, s) in held if is_name(part) else (r, part, s) in arrows for part, r, s in steps):
                if (name, walk[0], walk[-1]) not in held:
                    return False
    return not any((grammar[0][0], 0, end) in held for end in ends)


class Walks(unittest.TestCase):
    """[26]"""

    def test_by_hand(self):
        self.assertIs(lets(TURNS, []), True)
        self.assertIs(lets(TURNS, ["a", "b", "a", "b"]), True)
        self.assertIs(lets(TURNS, ["a", "b", "a"]), False)
        self.assertIs(lets(TURNS, ["b", "a"]), False)
        self.assertIs(lets(FORK, ["a", "b"]), True)
        self.assertIs(lets(CHAIN, ["a"] * 11), True)
        self.assertIs(lets(CHAIN, ["a"] * 12), False)
        self.assertIs(lets(BARE, []), True)
        self.assertIs(lets(BARE, ["a"]), False)
        self.assertIs(lets(NO_ENDS, []), False)
        self.assertIs(lets(NO_ENDS, ["a"]), False)
        self.assertIs(lets(NO_ARROWS, []), False)

    def test_lets_by_a_trial(self):
        for machine in MACHINES:
            for row in all_rows("ab", 4) + [["zz"], ["a", "zz"]]:
                self.assertIs(lets(machine, row), slow_lets(machine, row), (machine, row))

    def test_walks_by_a_trial(self):
        seen = {True: 0, False: 0}
        for machine in MACHINES:
            rooms, arrows, ends = machine
            for row in all_rows("ab", 3):
                some = False
                for size in (len(row), len(row) + 1, len(row) + 2):
                    for walk in itertools.product(range(min(rooms + 1, 4)), repeat=size):
                        told = is_walk(machine, row, list(walk))
                        right = (size == len(row) + 1 and walk[0] == 0 and walk[-1] in ends and all(
                            (walk[k], word, walk[k + 1]) in arrows for k, word in enumerate(row)))
                        self.assertIs(told, right, (machine, row, walk))
                        seen[right] += 1
                        some = some or told
                self.assertEqual(some, lets(machine, row))
        self.assertGreater(seen[True], 20)

    def test_any_list_of_whole_numbers(self):
        for walk in ([], [-1], [1], [2], [12], [0, 0], [-2], [10 ** 59], [-1, 0], [0, -1], [0, 1, 0, 1]):
            self.assertIs(is_walk(TURNS, [], walk), False)
            self.assertIs(is_walk(TURNS, ["a", "b"], walk), False)
        self.assertIs(is_walk(TURNS, [], [0]), True)
        self.assertIs(is_walk(TURNS, ["a", "b"], [0, 1, 0]), True)
        for walk in ([0, 1, 2], [0, -1, 0], [0, 1, -2], [2, 1, 0], [0, 10 ** 59, 0], [0, 1, 0, 0], [0, 1], [1, 0, 1]):
            self.assertIs(is_walk(TURNS, ["a", "b"], walk), False)
        self.assertIs(is_walk(TURNS, ["a"], [0, 1]), False)


class Both(unittest.TestCase):
    """[26], [27]"""

    def test_just_one_of_both(self):
        seen = {True: 0, False: 0}
        for grammar in FIXED + drawn_grammars()[:25]:
            read = [row for row in all_rows("ab", 4) if reads(grammar, row)]
            for machine in MACHINES:
                told = both_let(grammar, machine)
                paper = paper_none(grammar, machine)
                self.assertEqual(told is None, paper is not None)
                common = [row for row in read if slow_lets(machine, row)]
                seen[told is None] += 1
                if told is None:
                    self.assertEqual(common, [])
                    self.assertIs(right_none(grammar, machine, paper), True)
                    self.assertTrue(slow_right(grammar, machine, paper))
                    continue
                row, tree, walk = told
                self.assertIs(type(told), tuple)
                self.assertTrue(is_reading(grammar, row, tree))
                self.assertEqual(row_of(tree), row)
                self.assertIs(is_walk(machine, row, walk), True)
                if common:
                    self.assertEqual(len(row), len(common[0]))
                else:
                    self.assertGreater(len(row), 4)
        self.assertGreater(min(seen.values()), 100)

    def test_by_hand(self):
        self.assertEqual(both_let(EVEN, BARE), ([], (0, ()), [0]))
        self.assertEqual(both_let(BRACKETS, (2, [(0, "a", 1), (1, "a", 0)], [0]))[::2], (["a", "a"], [0, 1, 0]))
        self.assertEqual(both_let(BRACKETS, CHAIN)[0], ["a"] * 11)
        self.assertIsNone(both_let(EVEN, CHAIN))
        self.assertIsNone(both_let(NOTHING, FORK))
        self.assertIsNone(both_let(BRACKETS, NO_ENDS))
        self.assertIsNone(both_let(BRACKETS, BARE))
        self.assertEqual(both_let(EMPTY_TWICE, NO_ARROWS), None)
        self.assertEqual(paper_none(EMPTY_TWICE, NO_ARROWS), [("S", 0, 0), ("S", 1, 1), ("S", 2, 2)])
        self.assertIsNone(paper_none(EVEN, BARE))

    def test_the_nearest_of_several_ends(self):
        arrows = [(0, "a", 3), (3, "a", 2), (2, "a", 1)]
        self.assertEqual(both_let(BRACKETS, (4, arrows, [1, 2, 3]))[::2], (["a"], [0, 3]))
        self.assertEqual(both_let(BRACKETS, (4, arrows, [1, 2]))[::2], (["a", "a"], [0, 3, 2]))

    def test_a_short_row_by_a_long_tree(self):
        grammar = [("S", ("a", "a", "a"), 0), ("S", ("A",), 0), ("A", ("B", "E"), 0), ("B", ("E", "b", "E"), 0), ("E", (), 0)]
        self.assertEqual(both_let(grammar, (1, [(0, "a", 0), (0, "b", 0)], [0]))[0], ["b"])

    def test_some_hundred_words(self):
        own = "SABCDEFG"
        grammar = [(name, (below, below), 0) for name, below in zip(own, own[1:])] + [("G", ("a",), 0)]
        told = both_let(grammar, (1, [(0, "a", 0)], [0]))
        self.assertEqual((told[0], told[2]), (["a"] * 128, [0] * 129))
        three = [("S", ("a", "S"), 0), ("S", ("a",), 0), ("S", ("a", "a", "b"), 0)]
        ring = (11, [(k, "a", (k + 1) % 11) for k in range(11)], [10])
        self.assertEqual(len(both_let(three, ring)[0]), 10)
        self.assertEqual(len(both_let([("S", ("a", "a", "a", "S"), 0), ("S", ("a",), 0)], ring)[0]), 10)
        sevens = [("S", ("A", "A", "a", "S"), 0), ("S", (), 0), ("A", ("a", "a", "a"), 0)]
        self.assertEqual(len(both_let(sevens, ring)[0]), 21)


class Papers(unittest.TestCase):
    """[27]"""

    def test_changed(self):
        seen = {True: 0, False: 0}
        for grammar in FIXED + drawn_grammars()[:10]:
            own = sorted({rule[0] for rule in grammar})
            for machine in MACHINES[:10]:
                paper = paper_none(grammar, machine) or []
                rooms = range(machine[0])
                changed = [paper, [], paper[::-1], paper * 2]
                changed += [paper[:k] + paper[k + 1:] for k in range(len(paper))]
                changed += [paper + [(name, r, s)] for name in own for r in rooms for s in rooms]
                changed.append([(name, r, s) for name in own for r in rooms for s in rooms])
                for other in changed:
                    right = slow_right(grammar, machine, other)
                    seen[right] += 1
                    self.assertIs(right_none(grammar, machine, other), right, (grammar, machine, other))
        self.assertGreater(min(seen.values()), 300)

    def test_rooms_and_names_that_are_none(self):
        grammar = [("S", ("A", "b", "S"), 0), ("S", ("A",), 0), ("A", ("a",), 0)]
        machine = (3, [(0, "a", 1), (1, "b", 2), (1, "a", 0)], [0, 2])
        paper = paper_none(grammar, machine)
        self.assertIs(right_none(grammar, machine, paper), True)
        others = [("S", 0, 3), ("S", -1, 2), ("S", 3, 3), ("A", -1, 0), ("X", 0, 2), ("X", 0, 0), ("a", 0, 2), ("b", 2, 0),
                  ("S", 12, 0), ("A", 0, 10 ** 59), ("S_1", 0, 2), ("b", 1, 1)]
        for other in others:
            with self.subTest(other):
                self.assertIs(right_none(grammar, machine, paper + [other]), True)
                self.assertIs(right_none(grammar, machine, [other] + paper[1:]), False)
        self.assertIs(right_none(grammar, machine, others + paper), True)
        for end in (0, 2):
            self.assertIs(right_none(grammar, machine, paper + [("S", 0, end)]), False)


if __name__ == "__main__":
    unittest.main()
