"""Counts: how many trees a name has of a length, the rows of a length, and where two grammars part.

A count is a whole number, or None where there is no end of it.
"""

from readgrove.covers import marks
from readgrove.errors import TooMany
from readgrove.grammars import first_name, names, rules_of
from readgrove.nexts import words_of
from readgrove.rings import ringless
from readgrove.spans import facts

MOST_ROWS = 500
MOST_WORDS = 8


def times(count, other):
    if count == 0 or other == 0:
        return 0
    return None if count is None or other is None else count * other


def total(counts):
    return None if None in counts else sum(counts)


# For each name those that may stand in its trees with all of its words: the other parts can do without any.
def whole_links(grammar):
    own = marks(names(grammar))
    empty = marks([fact[0] for fact in facts(grammar, [])])
    links = dict([(name, []) for name in own])
    for rule in grammar:
        for k, part in enumerate(rule[1]):
            if part in own and all([other in empty for other in rule[1][:k] + rule[1][k + 1:]]):
                links[rule[0]].append(part)
    return links


# By lengths, from 0 on: for each part the list of its (length, count), but for counts of 0; for each rule and the
# number of a part in how many ways the parts from there on have so many words.
class Lengths:
    def __init__(self, grammar):
        self.grammar = grammar
        self.links = whole_links(grammar)
        self.numbers = dict([(name, rules_of(grammar, name)) for name in self.links])
        self.sizes = dict([(word, [(1, 1)]) for word in words_of(grammar)])
        self.sizes.update(dict([(name, []) for name in self.links]))
        self.tails = {}

    def fill_rule(self, number, length):
        parts = self.grammar[number][1]
        self.tails[(number, len(parts), length)] = 1 if length == 0 else 0
        for k in range(len(parts) - 1, -1, -1):
            ways = []
            for size, count in self.sizes[parts[k]]:
                if size <= length:
                    ways.append(times(count, self.tails[(number, k + 1, length - size)]))
            self.tails[(number, k, length)] = total(ways)

    def count_by_rules(self, name, length):
        for number in self.numbers[name]:
            self.fill_rule(number, length)
        return total([self.tails[(number, 0, length)] for number in self.numbers[name]])

    # The names that have trees of that length, those of all lesser ones being known.
    def held_at(self, length):
        held = marks([name for name in self.links if self.count_by_rules(name, length) != 0])
        size = -1
        while size < len(held):
            size = len(held)
            for name, others in self.links.items():
                if any([other in held for other in others]):
                    held[name] = True
        return held

    # A name that leads to a ring has trees without end; the others rest on what is counted ahead of them. In the end
    # all rules are filled again, now that all names of this length are known.
    def add_length(self, length):
        held = self.held_at(length)
        links = dict([(name, [other for other in self.links[name] if other in held]) for name in held])
        ended = ringless(links)
        for name in ended:
            self.sizes[name].append((length, self.count_by_rules(name, length)))
        for name in links:
            if name not in ended:
                self.sizes[name].append((length, None))
        for name in self.links:
            self.count_by_rules(name, length)


def lengths_to(grammar, most):
    lengths = Lengths(grammar)
    for length in range(most + 1):
        lengths.add_length(length)
    return lengths


def tree_count(grammar, name, length):
    found = dict(lengths_to(grammar, length).sizes.get(name, []))
    return found.get(length, 0)


# The rows of a thing are those of its ways, the rows of a way's things one behind the other. A thing is (part, length),
# or (rule, part, length) for a rule's parts from that one on. Told are the ways by which it has so many words.
def ways_of(lengths, thing):
    if len(thing) == 2:
        rests = [(number, 0, thing[1]) for number in lengths.numbers.get(thing[0], [])]
        return [(rest,) for rest in rests if lengths.tails[rest] != 0]
    parts = lengths.grammar[thing[0]][1]
    if thing[1] == len(parts):
        return [()]
    ways = []
    for size, count in lengths.sizes[parts[thing[1]]]:
        rest = (thing[0], thing[1] + 1, thing[2] - size)
        if size <= thing[2] and lengths.tails[rest] != 0:
            ways.append(((parts[thing[1]], size), rest))
    return ways


# For each thing that is used for the rows of the top one its ways.
def all_ways(lengths, top):
    found = {}
    waiting = [top]
    while waiting:
        thing = waiting.pop()
        if thing not in found:
            found[thing] = ways_of(lengths, thing)
            for way in found[thing]:
                waiting.extend(way)
    return found


# Each row of a thing that is used makes another one of the whole, so too many here are too many there.
def check_few(count):
    if count > MOST_ROWS:
        raise TooMany("there are more than five hundred rows")


def rows_of_way(rows, way):
    told = [()]
    for thing in way:
        check_few(len(told) * len(rows[thing]))
        longer = []
        for row in told:
            longer.extend([row + more for more in rows[thing]])
        told = longer
    return told


def rows_of_ways(rows, ways):
    found = {}
    for way in ways:
        found.update(marks(rows_of_way(rows, way)))
        check_few(len(found))
    return found


# Things of one length may rest on one another: they are gone round until nothing comes to them.
def fill_layer(rows, ways, layer):
    growing = True
    while growing:
        growing = False
        for thing in layer:
            found = rows_of_ways(rows, ways[thing])
            growing = growing or len(found) > len(rows[thing])
            rows[thing] = found


# Ends of rules go ahead of whole rules, and these ahead of names, so that few rounds do.
def layer_order(thing):
    return -thing[1] if len(thing) == 3 else 1


def is_word(lengths, thing):
    return len(thing) == 2 and thing[0] not in lengths.numbers


def rows_of_length(grammar, length):
    if length > MOST_WORDS:
        raise TooMany("rows of more than eight words are not listed")
    if length < 0:
        return []
    lengths = lengths_to(grammar, length)
    top = (first_name(grammar), length)
    ways = all_ways(lengths, top)
    rows = dict([(thing, {(thing[0],): True} if is_word(lengths, thing) else {}) for thing in ways])
    for size in range(length + 1):
        layer = [thing for thing in ways if thing[-1] == size and not is_word(lengths, thing)]
        fill_layer(rows, ways, sorted(layer, key=layer_order))
    return [list(row) for row in sorted(rows[top])]


def parting(one, other, most):
    for length in range(most + 1):
        mine = [tuple(row) for row in rows_of_length(one, length)]
        theirs = [tuple(row) for row in rows_of_length(other, length)]
        apart = sorted(set(mine) ^ set(theirs))
        if len(apart) > 0:
            return list(apart[0])
    return None
