"""Grammars and trees that several tests use, and plain recursive tellings to hold the program against."""

import random

# Names with figures behind a bar, names whose rules stand apart, rules without parts, rings.
TALK = [
    ("S", ("NP", "VP"), 1),
    ("NP", ("the", "N_1"), 2),
    ("N_1", ("dog",), 3),
    ("VP", ("sees", "NP"), 5),
    ("NP", ("NP", "and", "NP"), 7),
    ("N_1", ("cat",), 11),
    ("VP", (), 13),
    ("S", ("S",), 17),
    ("N_22", ("N_1", "N_1", "dog", "cat"), 19),
]

# One name, words and names mixed, two rules that differ in nothing but their cost.
NEST = [
    ("A", ("a", "A", "b"), 1),
    ("A", (), 0),
    ("A", ("A", "A"), 10 ** 59),
    ("A", ("c",), 4),
    ("A", ("c",), 6),
    ("A", ("A",), 8),
    ("A", ("c", "d"), 9),
]

# Rules of different names with the same parts, and of one name with its parts exchanged.
PAIRS = [
    ("P", ("Q", "R"), 0),
    ("Q", ("x",), 1),
    ("R", ("x",), 1),
    ("P", ("R", "Q"), 2),
    ("Q", ("P",), 3),
    ("R", (), 3),
    ("Q", ("R", "x"), 0),
    ("P", ("x", "Q"), 0),
]

GRAMMARS = [TALK, NEST, PAIRS]

DOG = (1, ("the", (2, ("dog",))))
CAT = (1, ("the", (5, ("cat",))))
DOG_SEES_CAT = (0, (DOG, (3, ("sees", CAT))))

# Binary, unary and leaf rules, by which trees of any number of knots are built.
BULK = [("L", ("L", "L"), 2), ("L", ("L",), 3), ("L", ("x", "y"), 5), ("L", (), 7)]


def balanced(leaves):
    if leaves == 1:
        return (2, ("x", "y"))
    half = leaves // 2
    return (0, (balanced(half), balanced(leaves - half)))


def nested(levels):
    tree = (1, ())
    for _ in range(levels - 1):
        tree = (0, ("a", tree, "b"))
    return tree


def grown(grammar, name, dice, room):
    """A right tree of the name, at most somewhat deeper than room; all names of the samples end without a ring."""
    numbers = [k for k, rule in enumerate(grammar) if rule[0] == name]
    if room <= 0:
        numbers = [min(numbers, key=lambda k: (height(grammar, grammar[k][1]), k))]
    number = dice.choice(numbers)
    children = tuple(
        grown(grammar, part, dice, room - 1) if part[0].isupper() else part for part in grammar[number][1]
    )
    return (number, children)


def height(grammar, parts, above=()):
    tall = 0
    for part in parts:
        if part[0].isupper():
            if part in above:
                return 10 ** 6
            rows = [rule[1] for rule in grammar if rule[0] == part]
            tall = max(tall, 1 + min(height(grammar, row, above + (part,)) for row in rows))
    return tall


def grown_trees():
    """Tuples (grammar, name, tree), the same ones each time."""
    dice = random.Random(20)
    told = []
    for grammar in GRAMMARS:
        for name in dict.fromkeys(rule[0] for rule in grammar):
            for _ in range(20):
                told.append((grammar, name, grown(grammar, name, dice, dice.randrange(6))))
    return told


def plain_row(tree):
    return [w for child in tree[1] for w in ([child] if isinstance(child, str) else plain_row(child))]


def plain_knots(tree):
    return 1 + sum(plain_knots(child) for child in tree[1] if isinstance(child, tuple))


def plain_depth(tree):
    return 1 + max([plain_depth(child) for child in tree[1] if isinstance(child, tuple)], default=0)


def plain_cost(grammar, tree):
    below = [plain_cost(grammar, child) for child in tree[1] if isinstance(child, tuple)]
    return grammar[tree[0]][2] + sum(below)


def plain_right(grammar, name, tree):
    number, children = tree
    if number not in range(len(grammar)):
        return False
    of, parts, _ = grammar[number]
    if of != name or len(parts) != len(children):
        return False
    for part, child in zip(parts, children):
        if part[0].isupper() != isinstance(child, tuple):
            return False
        if not (plain_right(grammar, part, child) if isinstance(child, tuple) else child == part):
            return False
    return True


def changed_children(children):
    """Every tuple of children with one left out, told twice, exchanged, or of the other kind."""
    told = [(), children + ("dog",), children + ((1, ()),)]
    for k, child in enumerate(children):
        ahead, behind = children[:k], children[k + 1:]
        other = (1, ()) if isinstance(child, str) else "dog"
        told += [ahead + behind, ahead + (child, child) + behind, ahead + (other,) + behind]
        if isinstance(child, str):
            told += [ahead + (word,) + behind for word in ("", child + "a", "x", "c", "cat", "NP", "A")]
        for m in range(k + 1, len(children)):
            swapped = list(children)
            swapped[k], swapped[m] = children[m], child
            told.append(tuple(swapped))
    return told


def changed_trees(grammar, tree):
    """Every tree with one knot otherwise: another number, or other children."""
    number, children = tree
    told = [(other, children) for other in range(-len(grammar) - 1, len(grammar) + 2) if other != number]
    told += [(10 ** 59, children), (-10 ** 59, children)]
    told += [(number, other) for other in changed_children(children) if other != children]
    for k, child in enumerate(children):
        if isinstance(child, tuple):
            for other in changed_trees(grammar, child):
                told.append((number, children[:k] + (other,) + children[k + 1:]))
    return told
