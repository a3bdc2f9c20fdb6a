"""Grammars: lists of rules (name, parts, cost)."""

from readgrove.errors import NoGrammar

GREAT_LETTERS = "ABCDEFGHIJKLMNOPQRSTUVWXYZ"
FIGURES = "0123456789"


def made_of(text, signs):
    return text != "" and all([sign in signs for sign in text])


# How long a name is plays no part: nothing is refused for lying somewhat beyond a bound.
def is_name(part):
    pieces = part.partition("_")
    right_end = pieces[1] == "" or made_of(pieces[2], FIGURES)
    return right_end and made_of(pieces[0], GREAT_LETTERS)


def names(grammar):
    found = {}
    for rule in grammar:
        found[rule[0]] = True
    return list(found)


def first_name(grammar):
    return grammar[0][0]


def rules_of(grammar, name):
    return [number for number, rule in enumerate(grammar) if rule[0] == name]


def check_rule(rule, known):
    if rule[2] < 0:
        raise NoGrammar("a cost is below 0")
    for part in rule[1]:
        if is_name(part) and part not in known:
            raise NoGrammar(f"no rule is of the name {part}")


def grammar_of(rules):
    if len(rules) == 0:
        raise NoGrammar("a grammar has one rule at least")
    known = names(rules)
    for rule in rules:
        check_rule(rule, known)
    return list(rules)
