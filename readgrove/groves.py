"""The grove: all readings of a row in one list, with its ring or its count, and the readings by their numbers."""

from readgrove.covers import cuts_to, marks, part_facts, turned
from readgrove.errors import Endless, NoReading
from readgrove.grammars import names, rules_of
from readgrove.greats import divided
from readgrove.readings import whole_fact
from readgrove.rings import ring_in, ringless
from readgrove.spans import facts, steps_by


# The facts that stand in a way by one of these cuts, each once.
def facts_in_cuts(own, parts, some_cuts):
    found = []
    for k, part in enumerate(parts):
        if part in own:
            spans = sorted(set([cut[k:k + 2] for cut in some_cuts]))
            found.extend([(part,) + span for span in spans])
    return found


class Ways:
    def __init__(self, grammar, row, known):
        self.grammar = grammar
        self.own = marks(names(grammar))
        self.numbers = dict([(name, rules_of(grammar, name)) for name in self.own])
        self.begins = turned(steps_by(row, known))
        self.found = {}

    # The cuts of a rule that end there are found together, for all facts that end there.
    def cuts_of(self, number, begin, end):
        if (number, end) not in self.found:
            self.found[(number, end)] = cuts_to(self.grammar[number][1], end, self.begins)
        return self.found[(number, end)].get(begin, [])

    # A tuple: the ways of a fact, and the facts that stand in them.
    def ways_of(self, fact):
        ways = []
        below = []
        for number in self.numbers[fact[0]]:
            told = self.cuts_of(number, fact[1], fact[2])
            ways.extend([(number, cut) for cut in told])
            below.extend(facts_in_cuts(self.own, self.grammar[number][1], told))
        return (ways, below)


def grove(grammar, row):
    known = facts(grammar, row)
    top = whole_fact(grammar, row)
    if top not in known:
        return []
    every = Ways(grammar, row, known)
    found = {top: []}
    waiting = [top]
    while waiting:
        fact = waiting.pop()
        told = every.ways_of(fact)
        found[fact] = told[0]
        for part in told[1]:
            if part not in found:
                found[part] = []
                waiting.append(part)
    return [(fact, found[fact]) for fact in sorted(found)]


# The parts of a fact's ways that have the same span. A ring leads through such parts alone.
def same_span(own, grammar, fact, ways):
    found = {}
    span = fact[1:]
    for number, cut in ways:
        if cut.count(span[0]) + cut.count(span[1]) >= len(cut):
            for part in part_facts(own, grammar[number][1], cut):
                if part[1:] == span:
                    found[part] = True
    return list(found)


def same_spans(grammar, told):
    own = marks(names(grammar))
    return dict([(fact, same_span(own, grammar, fact, ways)) for fact, ways in told])


def ring(grammar, grove):
    return ring_in(same_spans(grammar, grove))


# The facts of a grove, each one behind those that stand in its ways; None where there is a ring.
def in_order(grammar, told):
    links = same_spans(grammar, told)
    done = ringless(links)
    if len(done) < len(links):
        return None
    return sorted(done, key=lambda fact: fact[2] - fact[1])


def way_count(counts, parts):
    count = 1
    for part in parts:
        count = count * counts[part]
    return count


def fact_counts(grammar, told, order):
    own = marks(names(grammar))
    ways = dict(told)
    counts = {}
    for fact in order:
        counts[fact] = sum([
            way_count(counts, part_facts(own, grammar[number][1], cut)) for number, cut in ways[fact]
        ])
    return counts


def grove_count(grammar, row):
    told = grove(grammar, row)
    order = in_order(grammar, told)
    if order is None:
        return None
    return fact_counts(grammar, told, order).get(whole_fact(grammar, row), 0)


# The numbers of the trees of a way's names; the last one goes fastest.
def numbers_below(counts, parts, number):
    rest = number
    below = []
    for part in reversed(parts):
        told = divided(rest, counts[part])
        below.append(told[1])
        rest = told[0]
    return list(reversed(below))


# The way in which the tree of that number is, as (rule, cut, numbers of the trees of its names).
def chosen_way(grammar, own, counts, ways, number):
    rest = number
    at = 0
    parts = part_facts(own, grammar[ways[at][0]][1], ways[at][1])
    while rest >= way_count(counts, parts):
        rest = rest - way_count(counts, parts)
        at = at + 1
        parts = part_facts(own, grammar[ways[at][0]][1], ways[at][1])
    return ways[at] + (numbers_below(counts, parts, rest),)


# For each fact the numbers of its trees that are asked for, with the ways in which these are.
def chosen_ways(grammar, told, order, counts, top, number):
    own = marks(names(grammar))
    ways = dict(told)
    chosen = dict([(fact, {}) for fact in order])
    asked = dict([(fact, {}) for fact in order])
    asked[top][number] = True
    for fact in reversed(order):
        for wanted in list(asked[fact]):
            way = chosen_way(grammar, own, counts, ways[fact], wanted)
            chosen[fact][wanted] = way
            for part, below in zip(part_facts(own, grammar[way[0]][1], way[1]), way[2]):
                asked[part][below] = True
    return chosen


def tree_of_way(grammar, own, trees, way):
    parts = grammar[way[0]][1]
    below = [trees[(fact, number)] for fact, number in zip(part_facts(own, parts, way[1]), way[2])]
    children = []
    taken = 0
    for part in parts:
        if part in own:
            children.append(below[taken])
            taken = taken + 1
        else:
            children.append(part)
    return (way[0], tuple(children))


def tree_numbered(grammar, row, number):
    told = grove(grammar, row)
    order = in_order(grammar, told)
    if order is None:
        raise Endless("the row has readings without end")
    counts = fact_counts(grammar, told, order)
    top = whole_fact(grammar, row)
    if not 0 <= number < counts.get(top, 0):
        raise NoReading("no reading has that number")
    own = marks(names(grammar))
    chosen = chosen_ways(grammar, told, order, counts, top, number)
    trees = {}
    for fact in order:
        for wanted, way in chosen[fact].items():
            trees[(fact, wanted)] = tree_of_way(grammar, own, trees, way)
    return trees[(top, number)]
