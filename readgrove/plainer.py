"""Plainer grammars: without empty rules, without single names, with two parts at most; and the way back from them.

What a rule stands for is a tuple of pieces, by which a knot of it is told as a row of old trees and words: a whole
number is the row of that child (a word being a row of itself), (WHOLE, tree) is that tree, and (number, pieces) is a
tree by the old rule of that number whose children the pieces tell.
"""

from readgrove.covers import marks
from readgrove.errors import NoGrammar
from readgrove.grammars import first_name, names, rules_of
from readgrove.leasts import best_tree
from readgrove.nexts import shortest_lengths
from readgrove.spans import no_weights, row_trees
from readgrove.trees import is_tree

WHOLE = "whole"
FIGURED_NAMES = 10000


# So many names that are not taken, each with a bar and at most four figures.
def made_names(old, count):
    taken = marks(old)
    made = []
    tried = 0
    while len(made) < count:
        name = "M" * (1 + tried // FIGURED_NAMES) + "_" + str(tried % FIGURED_NAMES)
        tried = tried + 1
        if name not in taken:
            made.append(name)
    return made


def slots(parts):
    return tuple(range(len(parts)))


# Rules that are told, each once, with what they stand for; of two that are alike the first one stays.
class Plainer:
    def __init__(self):
        self.backs = {}

    def put_rule(self, name, parts, pieces):
        self.backs.setdefault((name, parts, 0), pieces)

    def is_part(self, name):
        return any([name in rule[1] for rule in self.backs])

    def grammar_and_backs(self):
        return (list(self.backs), list(self.backs.values()))


# A grammar that reads nothing: its one rule leads to itself and to nothing else.
def nothing_read(grammar):
    name = first_name(grammar)
    plain = Plainer()
    plain.put_rule(name, (name, name), ((0, (0, 1)),))
    return plain.grammar_and_backs()


# For each name that has a tree without words the smallest such tree.
def empty_trees(grammar):
    best = row_trees(grammar, [], no_weights(grammar))
    return dict([(fact[0], best_tree(grammar, best, fact)) for fact in best])


# The names that have a tree with some word.
def wordy_names(grammar):
    own = marks(names(grammar))
    fruitful = shortest_lengths(grammar)
    rules = [rule for rule in grammar if all([part in fruitful or part not in own for part in rule[1]])]
    wordy = {}
    size = -1
    while size < len(wordy):
        size = len(wordy)
        for rule in rules:
            if any([part in wordy or part not in own for part in rule[1]]):
                wordy[rule[0]] = True
    return wordy


# All ways to keep and to leave out parts, as tuples (parts, pieces): a name is kept where it has words to read, and
# left out where it has a tree without.
def thinned(parts, own, wordy, empties):
    told = [((), ())]
    for part in parts:
        kept = [(some + (part,), pieces + (len(some),)) for some, pieces in told if part in wordy or part not in own]
        left = [(some, pieces + ((WHOLE, empties[part]),)) for some, pieces in told if part in empties]
        told = kept + left
    return told


def put_thinned(plain, grammar, name, wordy, empties):
    own = marks(names(grammar))
    for number in rules_of(grammar, name):
        for parts, pieces in thinned(grammar[number][1], own, wordy, empties):
            if parts != () and parts != (name,):
                plain.put_rule(name, parts, ((number, pieces),))


def no_empty(grammar):
    first = first_name(grammar)
    wordy = wordy_names(grammar)
    empties = empty_trees(grammar)
    if first not in wordy and first not in empties:
        return nothing_read(grammar)
    plain = Plainer()
    for name in names(grammar):
        put_thinned(plain, grammar, name, wordy, empties)
    ahead = Plainer()
    if first in empties:
        begin = first
        if plain.is_part(first):
            begin = made_names(names(grammar), 1)[0]
            ahead.put_rule(begin, (first,), (0,))
        ahead.put_rule(begin, (), ((WHOLE, empties[first]),))
    told = plain.grammar_and_backs()
    begun = ahead.grammar_and_backs()
    return (begun[0] + told[0], begun[1] + told[1])


def check_no_empty(grammar):
    first = first_name(grammar)
    is_part = any([first in rule[1] for rule in grammar])
    for rule in grammar:
        if rule[1] == () and (rule[0] != first or is_part):
            raise NoGrammar("a rule is without parts")


def is_single(own, rule):
    return len(rule[1]) == 1 and rule[1][0] in own


# For each name to which single names lead from that one the numbers of the rules on a shortest way.
def single_chains(grammar, own, name):
    chains = {name: ()}
    waiting = [name]
    while waiting:
        here = waiting.pop(0)
        for number in rules_of(grammar, here):
            part = grammar[number][1][0] if is_single(own, grammar[number]) else here
            if part not in chains:
                chains[part] = chains[here] + (number,)
                waiting.append(part)
    return chains


def chain_pieces(chain, number, parts):
    pieces = ((number, slots(parts)),)
    for single in reversed(chain):
        pieces = ((single, pieces),)
    return pieces


def put_chained(plain, grammar, name, fruitful):
    own = marks(names(grammar))
    for here, chain in single_chains(grammar, own, name).items():
        for number in rules_of(grammar, here):
            parts = grammar[number][1]
            is_fruitful = all([part in fruitful or part not in own for part in parts])
            if is_fruitful and not is_single(own, grammar[number]):
                plain.put_rule(name, parts, chain_pieces(chain, number, parts))


def no_single(grammar):
    check_no_empty(grammar)
    fruitful = shortest_lengths(grammar)
    if first_name(grammar) not in fruitful:
        return nothing_read(grammar)
    plain = Plainer()
    for name in names(grammar):
        put_chained(plain, grammar, name, fruitful)
    return plain.grammar_and_backs()


# The ends of more than one part that a made name is to stand for, each once.
def long_ends(grammar):
    found = {}
    for rule in grammar:
        for k in range(1, len(rule[1]) - 1):
            found[rule[1][k:]] = True
    return list(found)


def shortened(parts, made):
    return parts if len(parts) <= 2 else (parts[0], made[parts[1:]])


def twos(grammar):
    ends = long_ends(grammar)
    made = dict(zip(ends, made_names(names(grammar), len(ends))))
    plain = Plainer()
    for number, rule in enumerate(grammar):
        parts = shortened(rule[1], made)
        plain.put_rule(rule[0], parts, ((number, slots(parts)),))
    for end in ends:
        parts = shortened(end, made)
        plain.put_rule(made[end], parts, slots(parts))
    return plain.grammar_and_backs()


# The row of old trees and words that the pieces tell, rows holding that of each child.
def put_together(pieces, rows):
    told = []
    for piece in pieces:
        if isinstance(piece, int):
            told.extend(rows[piece])
        elif piece[0] == WHOLE:
            told.append(piece[1])
        else:
            told.append((piece[0], tuple(put_together(piece[1], rows))))
    return told


# A knot is put together when its children are, which then stand at the end of what is told.
def back_tree(backs, tree):
    told = []
    waiting = [(tree, False)]
    while waiting:
        pair = waiting.pop()
        child = pair[0]
        if not is_tree(child):
            told.append([child])
        elif pair[1]:
            rows = [told.pop() for part in child[1]]
            told.append(put_together(backs[child[0]], list(reversed(rows))))
        else:
            waiting.append((child, True))
            waiting.extend([(part, False) for part in reversed(child[1])])
    return told[0][0]
