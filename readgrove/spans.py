"""Spans: the facts of a row, and the cuts of a rule."""

from readgrove.covers import cuts_to, facts_of_row, places_of, row_steps, turned, with_facts
from readgrove.leasts import least_trees


# For each fact of the row its cheapest tree, a knot costing what the weights tell.
def row_trees(grammar, row, weights):
    return least_trees(grammar, places_of(row), row_steps(row), weights)


def no_weights(grammar):
    return [0 for rule in grammar]


def facts(grammar, row):
    return sorted(row_trees(grammar, row, no_weights(grammar)))


def steps_by(row, known):
    return with_facts(row_steps(row), dict([(fact, 0) for fact in known]))


def cuts(grammar, row, number, begin, end, known):
    if not 0 <= begin <= end <= len(row):
        return []
    begins = turned(steps_by(row, facts_of_row(grammar, row, known)))
    return cuts_to(grammar[number][1], end, begins).get(begin, [])
