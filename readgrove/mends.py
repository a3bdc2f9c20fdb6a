"""Mends: the fewest steps from a row to one that has a reading, and a paper that shows no fewer will do."""

from readgrove.covers import is_closed, places_of
from readgrove.leasts import best_tree, joined, least_trees, made_of_best
from readgrove.nexts import shortest_lengths, words_of
from readgrove.readings import whole_fact
from readgrove.spans import no_weights

# Stands as the only part of a rule without parts: it takes the words that are dropped there.
GAP = ""


def with_gaps(grammar):
    return [rule if rule[1] != () else (rule[0], (GAP,), rule[2]) for rule in grammar]


def mend_cost(row, word, begin, end):
    between = row[begin:end]
    if word == GAP:
        return len(between)
    if len(between) == 0:
        return 1
    return len(between) - 1 if word in between else len(between)


def drops(words):
    return [("drop", word) for word in words]


# Steps from the row's words between the places to that one word, as many as mend_cost tells but for a keep.
def mend_steps(row, word, begin, end):
    between = row[begin:end]
    if word == GAP:
        return drops(between)
    if len(between) == 0:
        return [("put", word)]
    if word in between:
        at = between.index(word)
        return drops(between[:at]) + [("keep", word)] + drops(between[at + 1:])
    return [("swap", between[0], word)] + drops(between[1:])


# From each place each word leads to all places from there on.
def mending_steps(grammar, row):
    steps = {}
    for word in words_of(grammar):
        for begin in places_of(row):
            ends = [end for end in places_of(row) if end >= begin]
            steps[(word, begin)] = [(end, mend_cost(row, word, begin, end)) for end in ends]
    return steps


def least_mends(grammar, row):
    gapped = with_gaps(grammar)
    return least_trees(gapped, places_of(row), mending_steps(gapped, row), no_weights(grammar))


def fewest_mends(grammar, row):
    best = least_mends(grammar, row)
    top = whole_fact(grammar, row)
    if top not in best:
        return None
    steps = made_of_best(
        with_gaps(grammar), best, top, lambda word, begin, end: mend_steps(row, word, begin, end), joined
    )
    return (best[top][0][0], steps, best_tree(grammar, best, top))


# The last of a step is the word that it tells, unless it drops one.
def mended(steps):
    return [step[-1] for step in steps if step[0] != "drop"]


def is_mend(row, steps):
    return [step[1] for step in steps if step[0] != "put"] == row


def mend_paper(grammar, row):
    best = least_mends(grammar, row)
    return [(fact, best[fact][0][0]) for fact in sorted(best)]


def spans_of(row):
    spans = []
    for begin in places_of(row):
        spans.extend([(begin, end) for end in places_of(row) if end >= begin])
    return spans


# The facts of which the paper of mends has just one number each.
def facts_to_mend(grammar, row):
    found = []
    for name in shortest_lengths(grammar):
        found.extend([(name,) + span for span in spans_of(row)])
    return sorted(found)


def right_mend_paper(grammar, row, paper):
    if sorted([fact for fact, number in paper]) != facts_to_mend(grammar, row):
        return False
    gapped = with_gaps(grammar)
    return is_closed(gapped, places_of(row), mending_steps(gapped, row), no_weights(grammar), dict(paper))
