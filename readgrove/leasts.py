"""The cheapest tree of each fact: the one search on which readings, prices, mends and machines rest.

Steps are as in readgrove.covers, of words alone; weights hold for each rule what a knot of it costs. A cost is a tuple
(price, knots): of the trees of the least price those of the fewest knots go ahead.
"""

from readgrove.covers import marks, part_facts
from readgrove.grammars import names
from readgrove.queues import Queue


def added(cost, other):
    return (cost[0] + other[0], cost[1] + other[1])


# Costs never fall on the way from a part to the whole. So what the queue gives first is the cheapest of its kind, and
# a tree that is told stands on trees that were told ahead of it: no fact is within itself.
class Search:
    def __init__(self, grammar, steps):
        self.grammar = grammar
        self.own = marks(names(grammar))
        self.steps = steps
        self.queue = Queue()
        self.reached = {}
        self.best = {}
        self.ends = {}
        self.begun = {}

    # The cut of a rule's first parts is reached at that cost.
    def reach(self, number, cut, cost):
        key = (number, len(cut), cut[0], cut[-1])
        if key not in self.reached or cost < self.reached[key]:
            self.reached[key] = cost
            self.queue.put(cost, (number, cut))

    def take_next(self):
        taken = self.queue.take()
        cost = taken[0]
        number = taken[1][0]
        cut = taken[1][1]
        if self.reached[(number, len(cut), cut[0], cut[-1])] < cost:
            return
        parts = self.grammar[number][1]
        if len(cut) > len(parts):
            self.settle(number, cut, cost)
        elif parts[len(cut) - 1] in self.own:
            self.step_by_name(number, cut, cost, (parts[len(cut) - 1], cut[-1]))
        else:
            for end, price in self.steps.get((parts[len(cut) - 1], cut[-1]), []):
                self.reach(number, cut + (end,), (cost[0] + price, cost[1]))

    # Ends of that name that are found later are looked for by what is begun here.
    def step_by_name(self, number, cut, cost, key):
        self.begun.setdefault(key, []).append((number, cut, cost))
        for end, more in self.ends.get(key, []):
            self.reach(number, cut + (end,), added(cost, more))

    def settle(self, number, cut, cost):
        key = (self.grammar[number][0], cut[0])
        fact = key + (cut[-1],)
        if fact in self.best:
            return
        self.best[fact] = (cost, number, cut)
        self.ends.setdefault(key, []).append((cut[-1], cost))
        for other, before, paid in self.begun.get(key, []):
            self.reach(other, before + (cut[-1],), added(paid, cost))


# A dict: for each fact that holds (cost, number, cut), each one behind those that stand in it.
def least_trees(grammar, places, steps, weights):
    search = Search(grammar, steps)
    for number in range(len(grammar)):
        for place in places:
            search.reach(number, (place,), (weights[number], 1))
    while not search.queue.is_done():
        search.take_next()
    return search.best


# The facts of which the told tree of that one is made, each one behind those that stand in it.
def facts_within(grammar, best, top):
    own = marks(names(grammar))
    found = {top: True}
    waiting = [top]
    while waiting:
        told = best[waiting.pop()]
        for fact in part_facts(own, grammar[told[1]][1], told[2]):
            if fact not in found:
                found[fact] = True
                waiting.append(fact)
    return [fact for fact in best if fact in found]


# What comes of the told tree, fact by fact: of_word(word, begin, end) for its words, of_rule(number, values) for its
# knots. Each fact is made once, however often it stands in the tree.
def made_of_best(grammar, best, top, of_word, of_rule):
    own = marks(names(grammar))
    made = {}
    for fact in facts_within(grammar, best, top):
        number = best[fact][1]
        cut = best[fact][2]
        values = []
        for k, part in enumerate(grammar[number][1]):
            if part in own:
                values.append(made[(part, cut[k], cut[k + 1])])
            else:
                values.append(of_word(part, cut[k], cut[k + 1]))
        made[fact] = of_rule(number, values)
    return made[top]


def same_word(word, begin, end):
    return word


def knot_of(number, children):
    return (number, tuple(children))


def best_tree(grammar, best, top):
    return made_of_best(grammar, best, top, same_word, knot_of)


def one_behind_another(lists):
    whole = []
    for one in lists:
        whole.extend(one)
    return whole


def joined(number, lists):
    return one_behind_another(lists)
