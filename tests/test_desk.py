import unittest

from readgrove.costs import least_reading
from readgrove.desk import Desk
from readgrove.errors import Endless, NoGrammar, NoOrder, NoReading, NoText
from readgrove.groves import grove_count, tree_numbered
from readgrove.mends import fewest_mends, mended
from readgrove.nexts import next_words
from readgrove.readings import paper_against, reading
from readgrove.texts import shown_grammar, shown_tree
from tests.trials import BRACKETS, EVEN, NOTHING, all_grammars, fourfold, rows_for, value_of


def desk_with(*rules):
    desk = Desk()
    for rule in rules:
        desk.told("rule " + rule)
    return desk


class Answers(unittest.TestCase):
    """[32]"""

    def test_rules(self):
        desk = Desk()
        self.assertEqual(desk.told("rule S = a S b : 2"), "rules 1")
        self.assertEqual(desk.told("rule S ="), "rules 2")
        self.assertEqual(desk.told("rule S = T_1"), "rules 3")
        self.assertEqual(desk.told("rule S ="), "rules 4")
        self.assertEqual(desk.told("clear"), "rules 0")
        self.assertEqual(desk.told("clear"), "rules 0")
        self.assertEqual(desk.told("rule T = : 9"), "rules 1")

    def test_each_order(self):
        desk = desk_with("S = S S : 1", "S = a", "S = b : 20")
        self.assertEqual(desk.told("read a"), "reading S(a)")
        self.assertEqual(desk.told("read a b"), "reading S(S(a) S(b))")
        self.assertEqual(desk.told("read"), "none by 0")
        self.assertEqual(desk.told("read a a c"), "none by 3")
        self.assertEqual(desk.told("count a a a a"), "5")
        self.assertEqual(desk.told("count"), "0")
        self.assertEqual(desk.told("count c"), "0")
        self.assertEqual(desk.told("least b a"), "21 S(S(b) S(a))")
        self.assertEqual(desk.told("least c"), "none")
        self.assertEqual(desk.told("least"), "none")
        self.assertEqual(desk.told("next"), "a b")
        self.assertEqual(desk.told("next a"), "a b")
        self.assertEqual(desk.told("next c"), "nothing")
        self.assertEqual(desk.told("mend a b"), "0 a b")
        self.assertEqual(desk.told("mend a c b").split()[0], "1")
        self.assertEqual(desk.told("mend").split()[0], "1")
        self.assertEqual(desk.told("tree 0 a a a"), "S(S(a) S(S(a) S(a)))")
        self.assertEqual(desk.told("tree 1 a a a"), "S(S(S(a) S(a)) S(a))")

    def test_row_without_words(self):
        desk = desk_with("S = : 4")
        self.assertEqual(desk.told("read"), "reading S()")
        self.assertEqual(desk.told("count"), "1")
        self.assertEqual(desk.told("least"), "4 S()")
        self.assertEqual(desk.told("next"), "nothing")
        self.assertEqual(desk.told("mend"), "0")
        self.assertEqual(desk.told("mend a b"), "2")
        self.assertEqual(desk.told("tree 0"), "S()")

    def test_endless_and_nothing(self):
        desk = desk_with("S = S", "S = a")
        self.assertEqual(desk.told("count a"), "endless")
        self.assertEqual(desk.told("count b"), "0")
        self.assertEqual(desk.told("read a"), "reading S(a)")
        dead = desk_with("S = S a", "T = b")
        self.assertEqual(dead.told("mend a"), "none")
        self.assertEqual(dead.told("mend"), "none")
        self.assertEqual(dead.told("read b"), "none by 1")
        self.assertEqual(dead.told("next"), "nothing")
        self.assertEqual(dead.told("least a"), "none")

    def test_what_the_others_tell(self):
        for grammar in all_grammars(20):
            desk = desk_with(*shown_grammar(grammar).split("\n"))
            for row in rows_for(grammar, 4, 3):
                behind = "".join(" " + word for word in row)
                tree = reading(grammar, row)
                told = f"none by {len(paper_against(grammar, row) or [])}"
                if tree is not None:
                    told = "reading " + shown_tree(grammar, tree)
                self.assertEqual(desk.told("read" + behind), told)
                count = grove_count(grammar, row)
                self.assertEqual(desk.told("count" + behind), "endless" if count is None else str(count))
                least = least_reading(grammar, row)
                told = "none" if least is None else f"{least[0]} {shown_tree(grammar, least[1])}"
                self.assertEqual(desk.told("least" + behind), told)
                self.assertEqual(desk.told("next" + behind), " ".join(next_words(grammar, row)) or "nothing")
                mend = fewest_mends(grammar, row)
                told = "none" if mend is None else " ".join([str(mend[0])] + mended(mend[1]))
                self.assertEqual(desk.told("mend" + behind), told)
                for number in range(min(count or 0, 3)):
                    told = shown_tree(grammar, tree_numbered(grammar, row, number))
                    self.assertEqual(desk.told(f"tree {number}{behind}"), told)

    def test_great_numbers(self):
        desk = desk_with("S = S S", "S = a : " + "9" * 60)
        self.assertEqual(desk.told("least" + " a" * 2).split()[0], str(2 * (10 ** 60 - 1)))
        self.assertEqual(desk.told("count" + " a" * 16), "9694845")
        with self.assertRaises(NoReading):
            desk.told("tree " + "9" * 60 + " a")

    def test_counts_of_more_figures_than_python_writes(self):
        for own, ends in (("ABCDEFG", 2), ("ABCDEFG", 11), ("ABCDEFG", 12), ("ABCDEFGH", 2), ("ABCDEFGH", 10)):
            desk = desk_with(*shown_grammar(fourfold(own, ends)).split("\n"))
            told = desk.told("count")
            self.assertTrue(value_of(told) == ends ** 4 ** (len(own) - 1), (own, ends))
            self.assertNotEqual(told[0], "0")
            self.assertEqual(desk.told("count a"), "0")
        self.assertTrue(told == "1" + "0" * 4 ** 7)

    def test_great_counts_of_rows_with_words(self):
        desk = desk_with("S = A a A b", *shown_grammar(fourfold("ABCDEFGH", 2)).split("\n"))
        self.assertTrue(value_of(desk.told("count a b")) == 2 ** (2 * 4 ** 7))
        self.assertEqual(desk.told("count a"), "0")
        self.assertTrue(desk.told("tree " + "9" * 60 + " a b").startswith("S(A(B(C(D(E(F(G(H() H() "))


class Refusals(unittest.TestCase):
    """[33]"""

    ROWS = ["read", "count", "least", "next", "mend", "tree 0"]

    def refused(self, desk, order, error):
        before = list(desk.rules)
        with self.assertRaises(error, msg=order) as caught:
            desk.told(order)
        self.assertIs(type(caught.exception), error)
        self.assertEqual(desk.rules, before)

    def test_no_order(self):
        wrong = [
            "", " ", "rule", "rules", "Rule S = a", "rule\tS = a", "clear ", " clear", "clear a", "clear 1", "CLEAR", "clears",
            "read ", "read  a", "read a ", " read a", "read a  b", "read A", "read a1", "read 1", "read a\n", "read\ta", "readd a",
            "read abcdefghi", "read a_1", "reads", "count ", "count a ", "least A", "next ?", "mend a,b", "mend ", "tree", "tree ",
            "tree a", "tree  0", "tree 00", "tree 01 a", "tree -1 a", "tree +1 a", "tree 1a", "tree 0 ", "tree 0  a", "tree 0 A",
            "tree 0 1", "tree 0 a ", "tree " + "1" * 61, "tree 1" + "0" * 60 + " a", "tree 1_0 a", "foo", "foo a", "a", "\n",
            "clear\n", "read a\nb", "tree 0\n", "read\n", "next a.", "mend (",
        ]
        for desk in (Desk(), desk_with("S = a"), desk_with("S = T"), desk_with("S = S", "S = a")):
            for order in wrong:
                self.refused(desk, order, NoOrder)

    def test_no_text(self):
        wrong = ["", " ", "S", "S = ", "S = a ", " S = a", "s = a", "S = a : 0", "S = a : 01", "S = a\n", "S = a\nT = b", "S == a",
                 "S = abcdefghi", "S = a : " + "1" * 61, "S=a", "read a", "S =  a"]
        for desk in (Desk(), desk_with("S = a"), desk_with("S = T")):
            for text in wrong:
                self.refused(desk, "rule " + text, NoText)

    def test_no_grammar(self):
        cleared = desk_with("S = a")
        cleared.told("clear")
        for desk in (Desk(), cleared, desk_with("S = T"), desk_with("S = a", "S = S_1 a"), desk_with("A = a", "B = A AA : 4")):
            for order in self.ROWS + [order + " a b" for order in self.ROWS] + ["tree 10 a", "tree " + "9" * 60]:
                self.refused(desk, order, NoGrammar)

    def test_the_missing_rule_comes_later(self):
        desk = desk_with("S = T a")
        self.refused(desk, "read a", NoGrammar)
        self.assertEqual(desk.told("rule T ="), "rules 2")
        self.assertEqual(desk.told("read a"), "reading S(T() a)")

    def test_tree(self):
        ringed = desk_with("S = S", "S = a")
        for number in ("0", "1", "9" * 60):
            self.refused(ringed, f"tree {number} a", Endless)
            self.refused(ringed, f"tree {number} b", NoReading)
            self.refused(ringed, f"tree {number}", NoReading)
        desk = desk_with("S = a", "S = a : 1")
        self.assertEqual(desk.told("tree 1 a"), "S(a)")
        self.refused(desk, "tree 2 a", NoReading)
        self.refused(desk, "tree 0 b", NoReading)

    def test_order_goes_ahead_of_grammar(self):
        for order in ("read A", "tree x", "tree 00 a", "next a ", "tree"):
            self.refused(Desk(), order, NoOrder)
            self.refused(desk_with("S = T"), order, NoOrder)

    def test_desk_goes_on_after_a_refusal(self):
        desk = desk_with("S = a", "S = S b")
        for order in ("read A", "rule x", "tree 5 a", "foo", "clear x"):
            with self.assertRaises(ValueError):
                desk.told(order)
            self.assertEqual(desk.told("read a b"), "reading S(S(a) b)")
        self.assertEqual(desk.told("rule S = c"), "rules 3")


class Desks(unittest.TestCase):
    def test_two_by_turns(self):
        one, other = Desk(), Desk()
        rules = [(shown_grammar([rule]), shown_grammar([more])) for rule, more in zip(EVEN, NOTHING + BRACKETS)]
        for count, (mine, theirs) in enumerate(rules, 1):
            self.assertEqual(one.told("rule " + mine), f"rules {count}")
            self.assertEqual(other.told("rule " + theirs), f"rules {count}")
        self.assertEqual(one.told("read a a"), "reading S(a S() a)")
        self.assertEqual(other.told("read a a"), "none by 0")
        one.told("clear")
        self.assertEqual(other.told("read b"), "none by 1")
        with self.assertRaises(NoGrammar):
            one.told("read a a")
        self.assertEqual(one.told("rule S ="), "rules 1")
        self.assertEqual(Desk().told("rule S ="), "rules 1")


if __name__ == "__main__":
    unittest.main()
