"""The least reading of a row, and prices that show none is cheaper."""

from readgrove.covers import facts_of_row, is_closed, marks, places_of, row_steps
from readgrove.leasts import best_tree
from readgrove.readings import whole_fact
from readgrove.spans import row_trees


def rule_costs(grammar):
    return [rule[2] for rule in grammar]


def least_reading(grammar, row):
    best = row_trees(grammar, row, rule_costs(grammar))
    top = whole_fact(grammar, row)
    if top not in best:
        return None
    return (best[top][0][0], best_tree(grammar, best, top))


def prices(grammar, row):
    best = row_trees(grammar, row, rule_costs(grammar))
    return [(fact, best[fact][0][0]) for fact in sorted(best)]


def right_prices(grammar, row, prices):
    told = dict(prices)
    if len(told) < len(prices):
        return False
    inside = marks(facts_of_row(grammar, row, list(told)))
    held = dict([(fact, price) for fact, price in prices if fact in inside])
    return is_closed(grammar, places_of(row), row_steps(row), rule_costs(grammar), held)
