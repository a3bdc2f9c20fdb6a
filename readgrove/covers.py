"""What facts cover, over the places of a row or the rooms of a machine.

Steps are a dict: for (part, place) a list of tuples (end, price), for words and for names alike.
"""

from readgrove.grammars import names


def marks(things):
    return dict([(thing, True) for thing in things])


def places_of(row):
    return list(range(len(row) + 1))


def row_steps(row):
    return dict([((word, place), [(place + 1, 0)]) for place, word in enumerate(row)])


# The facts among those told that are some of the row, each once.
def facts_of_row(grammar, row, told):
    own = marks(names(grammar))
    size = len(row)
    return list(marks([fact for fact in told if fact[0] in own and 0 <= fact[1] <= fact[2] <= size]))


# The facts of prices, a dict, are of names; the steps told are of words.
def with_facts(steps, prices):
    told = dict(steps)
    for fact, price in prices.items():
        told.setdefault((fact[0], fact[1]), []).append((fact[2], price))
    return told


# For each place to which the parts lead the least price of all ways there.
def least_ends(parts, begin, steps):
    ends = {begin: 0}
    for part in parts:
        further = {}
        for place, paid in ends.items():
            for end, price in steps.get((part, place), []):
                if end not in further or paid + price < further[end]:
                    further[end] = paid + price
        ends = further
    return ends


# Whether each fact that is covered has a price, and one of no more than the weight of the rule and its way.
def is_closed(grammar, places, steps, weights, prices):
    every = with_facts(steps, prices)
    for rule, weight in zip(grammar, weights):
        for begin in places:
            for end, price in least_ends(rule[1], begin, every).items():
                told = prices.get((rule[0], begin, end))
                if told is None or told > price + weight:
                    return False
    return True


# For (part, end) the places from which the part leads there.
def turned(steps):
    begins = {}
    for key, ends in steps.items():
        for end, price in ends:
            begins.setdefault((key[0], end), []).append(key[1])
    return begins


# All cuts of the parts that end there, for each place where they begin; the places rise, so each list is sorted.
def cuts_to(parts, end, begins):
    tails = {end: [(end,)]}
    for part in reversed(parts):
        longer = {}
        for place in sorted(tails):
            for begin in begins.get((part, place), []):
                longer.setdefault(begin, []).extend([(begin,) + tail for tail in tails[place]])
        tails = longer
    return tails


def part_facts(own, parts, cut):
    return [(part, cut[k], cut[k + 1]) for k, part in enumerate(parts) if part in own]
