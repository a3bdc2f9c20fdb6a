import random
import re
import unittest

from readgrove.errors import NoGrammar, NoText
from readgrove.grammars import names
from readgrove.groves import grove_count
from readgrove.nexts import next_words
from readgrove.readings import reading
from readgrove.texts import read_grammar, read_tree, shown_grammar, shown_tree, signs, text_grammar
from readgrove.trees import is_reading
from tests.samples import BULK, DOG_SEES_CAT, NEST, PAIRS, TALK, grown_trees, nested, plain_knots
from tests.trials import all_grammars, value_of

NAME = "[A-Z]{1,8}(?:_[0-9]{1,4})?"
WORD = "[a-z]{1,8}"
RULE = re.compile(f"{NAME} =(?: (?:{NAME}|{WORD}))*(?: : [1-9][0-9]{{0,59}})?")
FREE_RULE = re.compile("[A-Z]+ =(?: (?:[A-Z]+|[a-z]+))*(?: : [1-9][0-9]*)?")
EVERY_SIGN = [chr(code) for code in range(32, 127)] + ["\t", "\n"]
SOME_SIGNS = list(" =:\n\taAz019_()~-") + ["  ", " :", "= ", ": 1"]

# As long as may be: eight letters, four figures, a cost of sixty figures, a rule without parts with a cost.
WIDE = [
    ("ABCDEFGH_1234", ("abcdefgh", "Z_0", "ABCDEFGH_1234", "z"), 10 ** 60 - 1), ("Z_0", (), 7), ("Z_0", (), 0),
    ("Q", ("Q",), 10), ("Z_00", ("a",), 1),
]


def changed_texts(text, more, count, seed=1):
    """Texts with one sign put in, left out or exchanged."""
    dice = random.Random(seed)
    told = [text[:k] + text[k + 1:] for k in range(len(text))]
    for _ in range(count):
        k = dice.randrange(len(text) + 1)
        told += [text[:k] + dice.choice(more) + text[k:], text[:k] + dice.choice(more) + text[k + 1:]]
    return told


def slow_rules(text):
    """The rules that a text writes, or None."""
    told = []
    for row in text.split("\n"):
        if not RULE.fullmatch(row):
            return None
        ahead, _, cost = row.partition(" : ")
        name, _, *parts = ahead.split(" ")
        told.append((name, tuple(parts), int(cost or 0)))
    return told


def slow_tree(grammar, text):
    """The tree that a text writes, or None; read from the left by what is awaited."""
    def child(k):
        word = re.compile(WORD).match(text, k)
        if word:
            return word.group(), word.end()
        return knot(k)

    def knot(k):
        name = re.compile(NAME + r"(?=\()").match(text, k)
        if not name:
            raise LookupError
        k = name.end() + 1
        children = []
        if text[k:k + 1] != ")":
            while True:
                one, k = child(k)
                children.append(one)
                if text[k:k + 1] != " ":
                    break
                k += 1
        if text[k:k + 1] != ")":
            raise LookupError
        parts = tuple(grammar[one[0]][0] if isinstance(one, tuple) else one for one in children)
        for number, rule in enumerate(grammar):
            if rule[:2] == (name.group(), parts):
                return (number, tuple(children)), k + 1
        raise LookupError

    try:
        tree, end = knot(0)
    except LookupError:
        return None
    return tree if end == len(text) else None


class Grammars(unittest.TestCase):
    """[30]"""

    def test_by_hand(self):
        self.assertEqual(shown_grammar([("S", ("a", "N_1"), 12), ("N_1", (), 0), ("S", (), 3)]), "S = a N_1 : 12\nN_1 =\nS = : 3")
        self.assertEqual(read_grammar("S = a N_1 : 12\nN_1 =\nS = : 3"),
                         [("S", ("a", "N_1"), 12), ("N_1", (), 0), ("S", (), 3)])
        self.assertEqual(read_grammar("S ="), [("S", (), 0)])

    def test_written_is_read_again(self):
        for grammar in all_grammars() + [WIDE, text_grammar()]:
            text = shown_grammar(grammar)
            self.assertEqual(read_grammar(text), grammar)
            self.assertEqual(slow_rules(text), grammar)

    def test_costs_of_more_figures_than_python_writes(self):
        for cost in (2 ** 4 ** 7, 10 ** 4300, 10 ** 4300 - 1, 10 ** 5000 + 1):
            written = shown_grammar([("S", ("a",), 3), ("S", (), cost)])
            self.assertEqual(written[:14], "S = a : 3\nS = ")
            self.assertEqual(written[14:16], ": ")
            self.assertNotEqual(written[16], "0")
            self.assertTrue(value_of(written[16:]) == cost)
            with self.assertRaises(NoText):
                read_grammar(written)

    def test_no_text(self):
        wrong = [
            "", "\n", "S", "S ", "S=", "S =a", "S  = a", " S = a", "S = a ", "S =  a", "S = ", "S = a\n", "\nS = a",
            "S = a\n\nS = b", "s = a", "S = a1", "S = aB", "S = Ab", "S = A_", "S = A_12345", "S = _1", "S_ = a", "S_a = a",
            "S = abcdefghi", "ABCDEFGHI = a", "S_12345 = a", "S = a :", "S = a : ", "S = a : 0", "S = a : 01", "S = a : -1",
            "S = a : 1 ", "S = a : 1 2", "S = a :1", "S = a: 1", "S = : ", "S = :", "S : 1", "S = a : 1 : 2", "S = a : x",
            "S = : 1 a", "S = a\tb", "S\t= a", "S = a : +1", "S = a : 1_0", "S = a = b", "= a", "S = a\r", "S = (a)", "S := a",
            "S = a : 1" + "0" * 60, "S = a : 00", "S == a", "S = a,b", "S = a\n ", "S = a : 1\nT",
        ]
        for text in wrong:
            with self.subTest(text), self.assertRaises(NoText):
                read_grammar(text)

    def test_sixty_figures_and_sixty_one(self):
        self.assertEqual(read_grammar("S = : " + "9" * 60), [("S", (), 10 ** 60 - 1)])
        self.assertEqual(read_grammar("S = : 1" + "0" * 59), [("S", (), 10 ** 59)])
        with self.assertRaises(NoText):
            read_grammar("S = : " + "9" * 61)

    def test_names_with_figures(self):
        self.assertEqual(read_grammar("S_0 = S_0000 S_12\nS_0000 =\nS_12 = S_0"),
                         [("S_0", ("S_0000", "S_12"), 0), ("S_0000", (), 0), ("S_12", ("S_0",), 0)])

    def test_no_grammar(self):
        for text in ("S = T", "S = a\nT = S U", "S = S_1", "S_1 = S", "A = AA", "S = T : 5"):
            with self.subTest(text), self.assertRaises(NoGrammar):
                read_grammar(text)

    def test_no_text_goes_ahead_of_no_grammar(self):
        for text in ("S = T\n", "S = T\nS = a ", "S = T : 0", "S = T\n\nS ="):
            with self.subTest(text), self.assertRaises(NoText):
                read_grammar(text)

    def test_rules_alike_stay(self):
        self.assertEqual(read_grammar("S = a\nS = a : 1\nS = a"), [("S", ("a",), 0), ("S", ("a",), 1), ("S", ("a",), 0)])

    def test_one_sign_otherwise(self):
        seen = {}
        for grammar in [WIDE, TALK, NEST, PAIRS, [("S", ("S", "a"), 10), ("S", (), 0)]]:
            for text in changed_texts(shown_grammar(grammar), SOME_SIGNS + EVERY_SIGN, 300):
                rules = slow_rules(text)
                if rules is None:
                    told = NoText
                elif {part for rule in rules for part in rule[1] if part[0].isupper()} - {rule[0] for rule in rules}:
                    told = NoGrammar
                else:
                    told = None
                    self.assertEqual(read_grammar(text), rules)
                seen[told] = seen.get(told, 0) + 1
                if told is not None:
                    with self.assertRaises(told, msg=text):
                        read_grammar(text)
        self.assertGreater(min(seen[told] for told in (NoText, NoGrammar, None)), 50)

    def test_four_thousand_signs(self):
        text = "\n".join(["ABCDEFGH = " + " ".join(["abcdefgh"] * 4)] * 80)
        self.assertGreater(len(text), 3500)
        self.assertEqual(shown_grammar(read_grammar(text)), text)


class Trees(unittest.TestCase):
    """[30]"""

    def test_by_hand(self):
        self.assertEqual(shown_tree(TALK, DOG_SEES_CAT), "S(NP(the N_1(dog)) VP(sees NP(the N_1(cat))))")
        self.assertEqual(shown_tree(TALK, (6, ())), "VP()")
        self.assertEqual(read_tree(TALK, "VP()"), (6, ()))
        self.assertEqual(read_tree(TALK, "N_1(dog)"), (2, ("dog",)))
        self.assertEqual(shown_tree(NEST, (2, ((1, ()), (3, ("c",))))), "A(A() A(c))")

    def test_written_is_read_again(self):
        for grammar, _, tree in grown_trees():
            text = shown_tree(grammar, tree)
            again = read_tree(grammar, text)
            self.assertEqual(shown_tree(grammar, again), text)
            self.assertEqual(again, slow_tree(grammar, text))
            if grammar is not NEST:
                self.assertEqual(again, tree)

    def test_first_rule_of_the_same_name_and_parts(self):
        self.assertEqual(read_tree(NEST, shown_tree(NEST, (4, ("c",)))), (3, ("c",)))
        self.assertEqual(read_tree(NEST, "A(A(c) A(c))"), (2, ((3, ("c",)), (3, ("c",)))))

    def test_no_text(self):
        wrong = [
            "", " ", "S", "the", "dog", "()", "S()", "N_1()", "N_1(cow)", "N_1(dog", "N_1dog)", "N_1(dog))", "N_1((dog))", "(dog)",
            " N_1(dog)", "N_1(dog) ", "N_1( dog)", "N_1(dog )", "N_1 (dog)", "N_1(dog)\n", "N_1(dog)N_1(dog)", "VP( )",
            "N_1(dog) N_1(dog)", "NP(the  N_1(dog))", "NP(theN_1(dog))", "NP(the N_1)", "NP(the dog)", "NP(N_1(dog) the)",
            "NP(the N_1(dog)", "NP(the N_1(dog)))", "np(the N_1(dog))", "NP(the\tN_1(dog))", "X(dog)", "NP(the NP(dog))", "VP)(",
            "S(S)", "S(VP())", "S(NP(the N_1(dog))VP())", "S(NP(the N_1(dog)) VP()())", "S(NP(the N_1(dog)) VP)", ")", "(", "VP()(",
            "N_1(dog)()", "N_1(Dog)", "N_1(N_1(dog))", "VP(()", "S(S(", "N_01(dog)",
        ]
        for text in wrong:
            with self.subTest(text), self.assertRaises(NoText):
                read_tree(TALK, text)

    def test_name_alone_is_no_child(self):
        with self.assertRaises(NoText):
            read_tree([("S", ("S",), 0), ("S", (), 0)], "S(S)")
        self.assertEqual(read_tree([("S", ("S",), 0), ("S", (), 0)], "S(S())"), (0, ((1, ()),)))

    def test_one_sign_otherwise(self):
        seen = {True: 0, False: 0}
        for grammar, _, tree in grown_trees():
            if plain_knots(tree) > 8:
                continue
            for text in changed_texts(shown_tree(grammar, tree), SOME_SIGNS + list("()() ") * 3 + ["()", "A()"], 6):
                told = slow_tree(grammar, text)
                seen[told is None] += 1
                if told is None:
                    with self.assertRaises(NoText, msg=text):
                        read_tree(grammar, text)
                else:
                    self.assertEqual(read_tree(grammar, text), told)
        self.assertGreater(seen[True], 1000)
        self.assertGreater(seen[False], 10)

    def test_two_hundred_within_one_another(self):
        for levels in (200, 900):
            text = shown_tree(NEST, nested(levels))
            self.assertEqual(text, "A(a " * (levels - 1) + "A()" + " b)" * (levels - 1))
            again = read_tree(NEST, text)
            self.assertEqual(shown_tree(NEST, again), text)

    def test_trees_without_children(self):
        self.assertEqual(shown_tree(BULK, (0, ((3, ()), (3, ())))), "L(L() L())")
        self.assertEqual(read_tree(BULK, "L(L() L())"), (0, ((3, ()), (3, ()))))


class Signs(unittest.TestCase):
    """[31]"""

    def test_every_sign(self):
        told = {" ": "blank", "=": "is", ":": "costs", "\n": "row"}
        told.update(zip("0123456789", "zero one two three four five six seven eight nine".split()))
        for sign in EVERY_SIGN:
            word = told.get(sign, sign if sign.islower() else "up" + sign.lower() if sign.isupper() else "other")
            self.assertEqual(signs(sign), [word])
        self.assertEqual(signs("".join(EVERY_SIGN)), [signs(sign)[0] for sign in EVERY_SIGN])

    def test_by_hand(self):
        self.assertEqual(signs(""), [])
        self.assertEqual(signs("Az =\t:_0"), ["upa", "z", "blank", "is", "other", "costs", "other", "zero"])

    def writes_rules(self, text):
        return all(FREE_RULE.fullmatch(row) for row in text.split("\n"))

    def looked_at(self, text):
        grammar = text_grammar()
        row = signs(text)
        writes = self.writes_rules(text)
        self.assertEqual(grove_count(grammar, row), int(writes), text)
        tree = reading(grammar, row)
        self.assertEqual(tree is not None, writes, text)
        if writes:
            self.assertTrue(is_reading(grammar, row, tree))
        return writes

    def test_text_grammar_is_a_grammar(self):
        grammar = text_grammar()
        self.assertEqual(read_grammar(shown_grammar(grammar)), grammar)
        self.assertLessEqual(max(len(rule[1]) for rule in grammar), 4)
        self.assertLessEqual(len(names(grammar)), 12)

    def test_texts_that_write_rules(self):
        for text in ("S =", "S = a", "S = T", "AB = cd EF g : 120", "S = : 5", "S =\nT = : 10\nU = a", "S = " + "a" * 12,
                     "ABCDEFGHIJ =", "S = : " + "9" * 70, "A = B\nC = D", "Q = a B c D e F g H : 907"):
            self.assertTrue(self.looked_at(text))

    def test_texts_that_do_not(self):
        for text in ("", "\n", "S", "S = ", "S = a ", " S = a", "S = a\n", "\nS = a", "S =  a", "s = a", "S = aB", "S = a : 0",
                     "S = a : 01", "S = a :", "S = a : ", "S_1 = a", "S = T_1", "S = a\t", "S = :", "S = a : 1 b", "S = a : 1\n",
                     "S = 1", "S=a", "S = a~", "S = a : 1 : 2", "= a", ": 1"):
            self.assertFalse(self.looked_at(text))

    def test_one_sign_otherwise(self):
        seen = {True: 0, False: 0}
        for text in ("S = a B : 10\nB =", "AB = cd", "S = : 7\nS = S"):
            for other in changed_texts(text, SOME_SIGNS, 120):
                seen[self.looked_at(other)] += 1
        self.assertGreater(min(seen.values()), 30)

    def test_what_is_written_has_one_reading(self):
        for grammar in all_grammars(12):
            text = shown_grammar([rule for rule in grammar if "_" not in rule[0] + "".join(rule[1])][:4])
            if text:
                self.assertTrue(self.looked_at(text))

    def test_goes_on(self):
        self.assertEqual(next_words(text_grammar(), signs("S =")), ["blank", "row"])
        self.assertEqual(len(next_words(text_grammar(), signs("S = "))), 26 + 26 + 1)
        self.assertEqual(len(next_words(text_grammar(), [])), 26)


if __name__ == "__main__":
    unittest.main()
