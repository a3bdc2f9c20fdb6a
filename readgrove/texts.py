"""Texts: grammars and trees written and read again, and the signs of a text with the grammar that reads them."""

from readgrove.errors import NoText
from readgrove.grammars import FIGURES, GREAT_LETTERS, grammar_of, is_name, made_of
from readgrove.greats import figures_of
from readgrove.trees import is_tree

SMALL_LETTERS = "abcdefghijklmnopqrstuvwxyz"
MOST_LETTERS = 8
MOST_NAME_FIGURES = 4
MOST_FIGURES = 60
FIGURE_WORDS = ("zero", "one", "two", "three", "four", "five", "six", "seven", "eight", "nine")
OTHER_SIGNS = {" ": "blank", "=": "is", ":": "costs", "\n": "row"}


def writes_word(text):
    return len(text) <= MOST_LETTERS and made_of(text, SMALL_LETTERS)


def writes_name(text):
    pieces = text.partition("_")
    return is_name(text) and len(pieces[0]) <= MOST_LETTERS and len(pieces[2]) <= MOST_NAME_FIGURES


# Figures without a 0 ahead but 0 itself.
def writes_number(text):
    return made_of(text, FIGURES) and len(text) <= MOST_FIGURES and (text == "0" or text[0] != "0")


def shown_rule(rule):
    pieces = [rule[0], "="] + list(rule[1])
    if rule[2] != 0:
        pieces.extend([":", figures_of(rule[2])])
    return " ".join(pieces)


def shown_grammar(grammar):
    return "\n".join([shown_rule(rule) for rule in grammar])


# What is to be written waits in turn: children, and the signs between and behind them.
def shown_tree(grammar, tree):
    written = []
    waiting = [tree]
    while waiting:
        child = waiting.pop()
        if not is_tree(child):
            written.append(child)
        else:
            written.append(grammar[child[0]][0] + "(")
            waiting.append(")")
            for k in range(len(child[1]) - 1, -1, -1):
                waiting.append(child[1][k])
                if k > 0:
                    waiting.append(" ")
    return "".join(written)


# The cost that stands behind a `:` at the end of a rule's pieces, 0 where there is none.
def written_cost(pieces):
    if len(pieces) < 2 or pieces[-2] != ":":
        return 0
    if not writes_number(pieces[-1]) or pieces[-1] == "0":
        raise NoText("a cost is figures without a 0 ahead, sixty at most")
    return int(pieces[-1])


def read_rule(text):
    pieces = text.split(" ")
    if len(pieces) < 2 or not writes_name(pieces[0]) or pieces[1] != "=":
        raise NoText("a rule begins with a name, a blank and =")
    cost = written_cost(pieces[2:])
    parts = pieces[2:] if cost == 0 else pieces[2:-2]
    if not all([writes_word(part) or writes_name(part) for part in parts]):
        raise NoText("the parts of a rule are words and names, each behind a blank")
    return (pieces[0], tuple(parts), cost)


def read_grammar(text):
    return grammar_of([read_rule(row) for row in text.split("\n")])


# For each name with its parts the first rule of them.
def rule_numbers(grammar):
    numbers = {}
    for number, rule in enumerate(grammar):
        numbers.setdefault((rule[0], rule[1]), number)
    return numbers


# The tree of a name and its children; a name that stands among these by itself is neither a word nor a tree.
def knot_by(grammar, numbers, name, children):
    if any([not is_tree(child) and is_name(child) for child in children]):
        raise NoText("a name stands without its brackets")
    parts = tuple([grammar[child[0]][0] if is_tree(child) else child for child in children])
    if is_tree(name) or (name, parts) not in numbers:
        raise NoText("a tree is of no rule")
    return (numbers[(name, parts)], tuple(children))


# What is told by the pieces of a text, without a look at its blanks. A name waits among the children around it until
# its bracket is closed.
def tree_by_pieces(grammar, pieces):
    numbers = rule_numbers(grammar)
    begun = [[]]
    for piece in pieces:
        if piece == "(":
            begun.append([])
        elif piece == ")":
            children = begun.pop()
            if len(begun) == 0 or len(begun[-1]) == 0:
                raise NoText("a bracket is closed without a name")
            name = begun[-1].pop()
            begun[-1].append(knot_by(grammar, numbers, name, children))
        else:
            begun[-1].append(piece)
    if len(begun) != 1 or len(begun[0]) != 1 or not is_tree(begun[0][0]):
        raise NoText("the text is not that of one tree")
    return begun[0][0]


# Whatever else is wrong with the text, it is not the one that the tree is written as.
def read_tree(grammar, text):
    pieces = text.replace("(", " ( ").replace(")", " ) ").split(" ")
    tree = tree_by_pieces(grammar, [piece for piece in pieces if piece != ""])
    if shown_tree(grammar, tree) != text:
        raise NoText("a tree is not written so")
    return tree


def sign_word(sign):
    if sign in SMALL_LETTERS:
        return sign
    if sign in GREAT_LETTERS:
        return "up" + sign.lower()
    if sign in FIGURES:
        return FIGURE_WORDS[FIGURES.index(sign)]
    return OTHER_SIGNS.get(sign, "other")


def signs(text):
    return [sign_word(sign) for sign in text]


# What stands behind the = of a rule is its REST. Each list grows at one side alone, so that a text has one reading.
def text_grammar():
    rules = [
        ("TEXT", ("RULE",), 0),
        ("TEXT", ("RULE", "row", "TEXT"), 0),
        ("RULE", ("NAME", "blank", "is", "REST"), 0),
        ("REST", (), 0),
        ("REST", ("blank", "costs", "blank", "COST"), 0),
        ("REST", ("blank", "NAME", "REST"), 0),
        ("REST", ("blank", "WORD", "REST"), 0),
        ("NAME", ("GREAT",), 0),
        ("NAME", ("GREAT", "NAME"), 0),
        ("WORD", ("SMALL",), 0),
        ("WORD", ("SMALL", "WORD"), 0),
        ("COST", ("COUNTING",), 0),
        ("COST", ("COST", "FIGURE"), 0),
        ("FIGURE", ("COUNTING",), 0),
        ("FIGURE", ("zero",), 0),
    ]
    rules.extend([("COUNTING", (word,), 0) for word in FIGURE_WORDS[1:]])
    rules.extend([("GREAT", (word,), 0) for word in signs(GREAT_LETTERS)])
    rules.extend([("SMALL", (word,), 0) for word in signs(SMALL_LETTERS)])
    return rules
