"""A reading of a row, or a paper that shows there is none."""

from readgrove.covers import facts_of_row, is_closed, places_of, row_steps
from readgrove.grammars import first_name
from readgrove.leasts import best_tree
from readgrove.spans import facts, no_weights, row_trees


def whole_fact(grammar, row):
    return (first_name(grammar), 0, len(row))


# The reading of the fewest knots.
def reading(grammar, row):
    best = row_trees(grammar, row, no_weights(grammar))
    top = whole_fact(grammar, row)
    return best_tree(grammar, best, top) if top in best else None


def right_paper(grammar, row, paper):
    prices = dict([(fact, 0) for fact in facts_of_row(grammar, row, paper)])
    if whole_fact(grammar, row) in prices:
        return False
    return is_closed(grammar, places_of(row), row_steps(row), no_weights(grammar), prices)


def paper_against(grammar, row):
    paper = facts(grammar, row)
    return None if whole_fact(grammar, row) in paper else paper
