"""Trees: tuples (number, children), walked without recursion, so that no depth is too great."""

from readgrove.grammars import first_name, is_name


def is_tree(child):
    return isinstance(child, tuple)


def row_of(tree):
    row = []
    waiting = [tree]
    while waiting:
        child = waiting.pop()
        if is_tree(child):
            waiting.extend(list(reversed(child[1])))
        else:
            row.append(child)
    return row


# Each tree within a tree, itself too, with how deep it lies, counted from 1.
def trees_within(tree):
    found = []
    waiting = [(tree, 1)]
    while waiting:
        pair = waiting.pop()
        found.append(pair)
        waiting.extend([(child, pair[1] + 1) for child in pair[0][1] if is_tree(child)])
    return found


def tree_cost(grammar, tree):
    return sum([grammar[knot[0]][2] for knot, level in trees_within(tree)])


def knots(tree):
    return len(trees_within(tree))


def depth(tree):
    return max([level for knot, level in trees_within(tree)])


# Whether a tree's rule is of the name and its children fit the parts; the trees among them are not looked into.
def right_knot(grammar, name, tree):
    if not is_tree(tree) or not 0 <= tree[0] < len(grammar):
        return False
    rule = grammar[tree[0]]
    if rule[0] != name or len(rule[1]) != len(tree[1]):
        return False
    return all([is_name(part) or child == part for part, child in zip(rule[1], tree[1])])


def right_tree(grammar, name, tree):
    waiting = [(name, tree)]
    while waiting:
        pair = waiting.pop()
        if not right_knot(grammar, pair[0], pair[1]):
            return False
        knot = pair[1]
        parts = grammar[knot[0]][1]
        waiting.extend([(part, child) for part, child in zip(parts, knot[1]) if is_name(part)])
    return True


def is_reading(grammar, row, tree):
    return right_tree(grammar, first_name(grammar), tree) and row_of(tree) == row
