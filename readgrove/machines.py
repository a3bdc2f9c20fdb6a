"""Machines of rooms, held against grammars. A machine is a tuple (rooms, arrows, ends)."""

from readgrove.covers import is_closed, marks
from readgrove.grammars import first_name, names
from readgrove.leasts import best_tree, joined, least_trees, made_of_best
from readgrove.nexts import listed
from readgrove.spans import no_weights


def rooms_of(machine):
    return list(range(machine[0]))


def lets(machine, row):
    rooms = {0: True}
    for word in row:
        rooms = marks([arrow[2] for arrow in machine[1] if arrow[0] in rooms and arrow[1] == word])
    return any([end in rooms for end in machine[2]])


# A walk lets the row by: from room 0, by arrows of its words, to an end.
def is_walk(machine, row, walk):
    if len(walk) != len(row) + 1 or walk[0] != 0 or walk[-1] not in machine[2]:
        return False
    return all([(walk[k], word, walk[k + 1]) in machine[1] for k, word in enumerate(row)])


# Each arrow costs one word.
def arrow_steps(machine):
    steps = {}
    for arrow in marks(machine[1]):
        steps.setdefault((arrow[1], arrow[0]), []).append((arrow[2], 1))
    return steps


def machine_trees(grammar, machine):
    return least_trees(grammar, rooms_of(machine), arrow_steps(machine), no_weights(grammar))


# The facts that a grammar and a machine both let by some row, of those told.
def common_facts(grammar, machine, told):
    wanted = marks([(first_name(grammar), 0, end) for end in machine[2]])
    return [fact for fact in told if fact in wanted]


def room_reached(word, begin, end):
    return [end]


def both_let(grammar, machine):
    best = machine_trees(grammar, machine)
    common = common_facts(grammar, machine, best)
    if len(common) == 0:
        return None
    top = min(common, key=lambda fact: best[fact][0])
    row = made_of_best(grammar, best, top, listed, joined)
    walk = [0] + made_of_best(grammar, best, top, room_reached, joined)
    return (row, best_tree(grammar, best, top), walk)


def paper_none(grammar, machine):
    paper = sorted(machine_trees(grammar, machine))
    return None if common_facts(grammar, machine, paper) else paper


def right_none(grammar, machine, paper):
    own = marks(names(grammar))
    rooms = marks(rooms_of(machine))
    inside = [fact for fact in paper if fact[0] in own and fact[1] in rooms and fact[2] in rooms]
    if common_facts(grammar, machine, inside):
        return False
    steps = dict([(key, [(end, 0) for end, price in ends]) for key, ends in arrow_steps(machine).items()])
    return is_closed(grammar, list(rooms), steps, no_weights(grammar), dict([(fact, 0) for fact in inside]))
