"""What may come next: shortest rows, next words, and the way on."""

from readgrove.covers import marks, places_of, row_steps
from readgrove.grammars import first_name, names, rules_of
from readgrove.leasts import joined, least_trees, made_of_best, one_behind_another
from readgrove.readings import whole_fact
from readgrove.spans import facts, no_weights, steps_by


# The words of a grammar's rules, sorted, each once.
def words_of(grammar):
    own = marks(names(grammar))
    found = {}
    for rule in grammar:
        for part in rule[1]:
            if part not in own:
                found[part] = True
    return sorted(found)


# For each fruitful name how many words its shortest row has: all words lead from one place back to it.
def shortest_lengths(grammar):
    steps = dict([((word, 0), [(0, 1)]) for word in words_of(grammar)])
    best = least_trees(grammar, [0], steps, no_weights(grammar))
    return dict([(fact[0], best[fact][0][0]) for fact in best])


# The rules whose parts' shortest rows make a shortest row of their name.
def tight_rules(grammar, lengths):
    own = marks(names(grammar))
    found = []
    for rule in grammar:
        if all([part in lengths for part in rule[1] if part in own]):
            if sum([lengths.get(part, 1) for part in rule[1]]) == lengths[rule[0]]:
                found.append(rule)
    return found


# The row that comes of the parts by those rows, or None where one of their names has none yet.
def row_by(own, rows, parts):
    if any([part in own and part not in rows for part in parts]):
        return None
    return one_behind_another([rows[part] if part in own else [part] for part in parts])


# All rows of a name have the same length here, so the first one by the alphabet is made of first ones.
def first_rows(grammar, lengths):
    own = marks(names(grammar))
    tight = tight_rules(grammar, lengths)
    rows = {}
    changed = True
    while changed:
        changed = False
        for rule in tight:
            row = row_by(own, rows, rule[1])
            if row is not None and (rule[0] not in rows or row < rows[rule[0]]):
                rows[rule[0]] = row
                changed = True
    return rows


def shortest_rows(grammar):
    rows = first_rows(grammar, shortest_lengths(grammar))
    return [(name, rows[name]) for name in names(grammar) if name in rows]


# From a place a rule's parts are gone through; the words that may stand at the row's end are marked, and the names
# that may begin on the way there are told.
def look_through(parts, place, steps, size, found):
    begun = []
    places = {place: True}
    for part in parts:
        if size in places:
            found[part] = True
        further = {}
        for here in places:
            begun.append((part, here))
            for end, price in steps.get((part, here), []):
                further[end] = True
        places = further
    return begun


def next_words(grammar, row):
    fruitful = shortest_lengths(grammar)
    own = marks(names(grammar))
    steps = steps_by(row, facts(grammar, row))
    found = {}
    seen = {(first_name(grammar), 0): True}
    waiting = list(seen)
    while waiting:
        state = waiting.pop()
        for number in rules_of(grammar, state[0]):
            parts = grammar[number][1]
            if all([part in fruitful or part not in own for part in parts]):
                for begun in look_through(parts, state[1], steps, len(row), found):
                    if begun[0] in own and begun not in seen:
                        seen[begun] = True
                        waiting.append(begun)
    return [word for word in sorted(found) if word not in own]


# Behind the row each word leads from its end back to it.
def steps_beyond(grammar, row):
    steps = row_steps(row)
    for word in words_of(grammar):
        steps[(word, len(row))] = [(len(row), 1)]
    return steps


def listed(word, begin, end):
    return [word]


def way_on(grammar, row):
    best = least_trees(grammar, places_of(row), steps_beyond(grammar, row), no_weights(grammar))
    top = whole_fact(grammar, row)
    return made_of_best(grammar, best, top, listed, joined) if top in best else None
