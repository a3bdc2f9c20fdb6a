"""The desk: orders told as rows of text, each answered by a text."""

from readgrove.costs import least_reading
from readgrove.errors import NoOrder
from readgrove.grammars import grammar_of
from readgrove.greats import figures_of
from readgrove.groves import grove_count, tree_numbered
from readgrove.mends import fewest_mends, mended
from readgrove.nexts import next_words
from readgrove.readings import paper_against, reading
from readgrove.texts import read_rule, shown_tree, writes_number, writes_word

RULE_AHEAD = "rule "


def told_reading(grammar, row):
    tree = reading(grammar, row)
    if tree is None:
        facts = len(paper_against(grammar, row))
        return f"none by {facts}"
    return "reading " + shown_tree(grammar, tree)


def told_count(grammar, row):
    count = grove_count(grammar, row)
    return "endless" if count is None else figures_of(count)


def told_least(grammar, row):
    least = least_reading(grammar, row)
    return "none" if least is None else figures_of(least[0]) + " " + shown_tree(grammar, least[1])


def told_next(grammar, row):
    words = next_words(grammar, row)
    return " ".join(words) if len(words) > 0 else "nothing"


def told_mend(grammar, row):
    mend = fewest_mends(grammar, row)
    return "none" if mend is None else " ".join([figures_of(mend[0])] + mended(mend[1]))


ANSWERS = {
    "read": told_reading,
    "count": told_count,
    "least": told_least,
    "next": told_next,
    "mend": told_mend,
}


def check_words(words):
    if not all([writes_word(word) for word in words]):
        raise NoOrder("an order is followed by words, each behind a blank")


# An order about a row of words; its form is looked at ahead of the grammar.
def told_of_row(rules, pieces):
    if pieces[0] not in ANSWERS:
        raise NoOrder("there is no such order")
    check_words(pieces[1:])
    return ANSWERS[pieces[0]](grammar_of(rules), pieces[1:])


def told_tree(rules, pieces):
    if len(pieces) < 2 or not writes_number(pieces[1]):
        raise NoOrder("tree is followed by a number")
    check_words(pieces[2:])
    grammar = grammar_of(rules)
    return shown_tree(grammar, tree_numbered(grammar, pieces[2:], int(pieces[1])))


class Desk:
    def __init__(self):
        self.rules = []

    def told(self, order):
        if order.startswith(RULE_AHEAD):
            return self.put_behind(read_rule(order[len(RULE_AHEAD):]))
        if order == "clear":
            self.rules = []
            return "rules 0"
        pieces = order.split(" ")
        return told_tree(self.rules, pieces) if pieces[0] == "tree" else told_of_row(self.rules, pieces)

    def put_behind(self, rule):
        self.rules.append(rule)
        count = len(self.rules)
        return f"rules {count}"
