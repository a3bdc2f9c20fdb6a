"""Slow and plain tellings of what the program tells, and grammars and rows that are drawn, the same ones each time."""

import functools
import itertools
import random

from tests.samples import GRAMMARS

# Rings of one name, of two, of one name twice beside itself without words; brackets two by two; nothing to read.
ONE_RING = [("S", ("S",), 1), ("S", ("a",), 2)]
TWO_RING = [("S", ("A",), 1), ("A", ("S",), 1), ("A", ("a",), 3), ("S", ("b", "A"), 0)]
EMPTY_TWICE = [("S", ("S", "S"), 1), ("S", (), 2), ("S", ("a",), 0)]
THREE_RING = [("S", ("A", "E"), 0), ("A", ("E", "B"), 0), ("B", ("S",), 0), ("B", ("b",), 5), ("E", (), 1)]
BRACKETS = [("S", ("S", "S"), 1), ("S", ("a",), 0)]
NOTHING = [("S", ("S", "a"), 0), ("T", ("b",), 0)]
UNFRUITFUL = [("S", ("a", "S", "T"), 0), ("S", ("b",), 1), ("T", ("T", "a"), 0), ("U", ("S", "a"), 2)]
EVEN = [("S", (), 0), ("S", ("a", "S", "a"), 1), ("S", ("b", "S", "b"), 2)]

FIXED = [ONE_RING, TWO_RING, EMPTY_TWICE, THREE_RING, BRACKETS, NOTHING, UNFRUITFUL, EVEN]


def is_name(part):
    return part[0].isupper()


def drawn_rule(dice, name, choices):
    parts = tuple(dice.choice(choices) for _ in range(dice.choice([0, 1, 1, 2, 2, 3, 4])))
    return (name, parts, dice.choice([0, 0, 1, 2, 7]))


def drawn_grammar(dice, words="ab"):
    """One to four names; two names of three have a rule of words alone, so that many rows have readings."""
    own = list("SABC"[:dice.randint(1, 4)])
    words = list(words)
    rules = [drawn_rule(dice, name, words if dice.randrange(3) else own + words) for name in own]
    return rules + [drawn_rule(dice, dice.choice(own), own + words) for _ in range(dice.randint(1, 5))]


@functools.lru_cache(maxsize=None)
def drawn_grammars(count=60, seed=7):
    dice = random.Random(seed)
    return [drawn_grammar(dice) for _ in range(count)]


def all_grammars(count=60):
    return FIXED + GRAMMARS + drawn_grammars(count)


def fourfold(own, ends):
    """Each name stands for four of the next one; the last one has so many rules without parts."""
    return [(name, (below,) * 4, 0) for name, below in zip(own, own[1:])] + [(own[-1], (), 0)] * ends


def value_of(figures):
    """The number that is written, also by more figures than Python reads at once."""
    if len(figures) <= 500:
        return int(figures)
    half = len(figures) // 2
    return value_of(figures[:-half]) * 10 ** half + value_of(figures[-half:])


def words_in(grammar):
    return sorted({part for rule in grammar for part in rule[1] if not is_name(part)})


def grown_row(grammar, most, dice):
    """A row of at most so many words that has a reading, or None where chance brings none."""
    for _ in range(30):
        row = [grammar[0][0]]
        for _ in range(25):
            places = [k for k, part in enumerate(row) if is_name(part)]
            if not places:
                if len(row) <= most:
                    return row
                break
            k = dice.choice(places)
            row[k:k + 1] = dice.choice([rule[1] for rule in grammar if rule[0] == row[k]])
            if len(row) > most + 4:
                break
    return None


def rows_for(grammar, most, count, seed=3):
    """The row without words, one of a word that the grammar has not, and drawn rows, about half of them readable."""
    dice = random.Random(seed)
    words = words_in(grammar)[:4] or ["a"]
    told = [[], ["zz"]]
    for k in range(count + 1):
        row = grown_row(grammar, most, dice) if k % 2 == 0 else None
        told.append(row if row is not None else [dice.choice(words) for _ in range(dice.randint(1, most))])
    return told


def all_rows(words, most):
    return [list(row) for size in range(most + 1) for row in itertools.product(words, repeat=size)]


def spans(row):
    return [(i, j) for i in range(len(row) + 1) for j in range(i, len(row) + 1)]


def is_cut(row, parts, cut, known):
    for k, part in enumerate(parts):
        if is_name(part):
            if (part, cut[k], cut[k + 1]) not in known:
                return False
        elif cut[k + 1] != cut[k] + 1 or row[cut[k]] != part:
            return False
    return True


def slow_cuts(grammar, row, number, begin, end, known):
    """A trial of all rows of numbers."""
    parts = grammar[number][1]
    if not parts:
        return [(begin,)] if begin == end else []
    told = []
    for middle in itertools.product(range(len(row) + 1), repeat=len(parts) - 1):
        cut = (begin,) + middle + (end,)
        if list(cut) == sorted(cut) and is_cut(row, parts, cut, known):
            told.append(cut)
    return sorted(told)


def slow_facts(grammar, row):
    return set(kept_facts(tuple(grammar), tuple(row)))


@functools.lru_cache(maxsize=None)
def kept_facts(grammar, row):
    known = set()
    size = -1
    while size < len(known):
        size = len(known)
        for number, rule in enumerate(grammar):
            for i, j in spans(row):
                if (rule[0], i, j) not in known and slow_cuts(grammar, row, number, i, j, known):
                    known.add((rule[0], i, j))
    return frozenset(known)


def top_of(grammar, row):
    return (grammar[0][0], 0, len(row))


def reads(grammar, row):
    return top_of(grammar, row) in slow_facts(grammar, row)


def slow_ways(grammar, row, fact, known):
    name, i, j = fact
    return [
        (number, cut)
        for number, rule in enumerate(grammar) if rule[0] == name
        for cut in slow_cuts(grammar, row, number, i, j, known)
    ]


def parts_of_way(grammar, way):
    number, cut = way
    return [(part, cut[k], cut[k + 1]) for k, part in enumerate(grammar[number][1]) if is_name(part)]


def slow_grove(grammar, row, name=None):
    """The grove of a row, or of another name over the whole row."""
    known = slow_facts(grammar, row)
    top = (name or grammar[0][0], 0, len(row))
    if top not in known:
        return []
    found = {}
    waiting = [top]
    while waiting:
        fact = waiting.pop()
        if fact not in found:
            found[fact] = slow_ways(grammar, row, fact, known)
            waiting += [part for way in found[fact] for part in parts_of_way(grammar, way)]
    return sorted(found.items())


def has_ring(grammar, grove):
    below = {fact: {part for way in ways for part in parts_of_way(grammar, way)} for fact, ways in grove}
    for fact in below:
        seen = set()
        waiting = list(below[fact])
        while waiting:
            part = waiting.pop()
            if part not in seen:
                seen.add(part)
                waiting += below[part]
        if fact in seen:
            return True
    return False


def slow_trees(grammar, fact, ways):
    """All trees of a fact in the order of [17]; ways is a dict, and there is no ring."""
    told = []
    for number, cut in ways[fact]:
        parts = grammar[number][1]
        choices = [
            slow_trees(grammar, (part, cut[k], cut[k + 1]), ways) if is_name(part) else [part]
            for k, part in enumerate(parts)
        ]
        told += [(number, children) for children in itertools.product(*choices)]
    return told


def slow_prices(grammar, row):
    """The least cost of each fact: gone round until none falls."""
    known = slow_facts(grammar, row)
    prices = {}
    changed = True
    while changed:
        changed = False
        for fact in sorted(known):
            for way in slow_ways(grammar, row, fact, known):
                below = parts_of_way(grammar, way)
                if all(part in prices for part in below):
                    price = grammar[way[0]][2] + sum(prices[part] for part in below)
                    if fact not in prices or price < prices[fact]:
                        prices[fact] = price
                        changed = True
    return prices


def facts_on_ways(grammar, fact, tree, above=()):
    """Every tuple of facts on a way from a tree's top down."""
    name, i, j = fact
    told = [above + (fact,)]
    place = i
    for part, child in zip(grammar[tree[0]][1], tree[1]):
        size = 1
        if is_name(part):
            size = word_count(child)
            told += facts_on_ways(grammar, (part, place, place + size), child, above + (fact,))
        place += size
    return told


def word_count(tree):
    return sum(word_count(child) if isinstance(child, tuple) else 1 for child in tree[1])


def slow_fruitful(grammar):
    found = set()
    size = -1
    while size < len(found):
        size = len(found)
        found |= {rule[0] for rule in grammar if all(part in found or not is_name(part) for part in rule[1])}
    return found


def beginnings(grammar):
    """A grammar of all beginnings of the rows that the grammar reads; None where it reads nothing."""
    fruitful = slow_fruitful(grammar)
    if grammar[0][0] not in fruitful:
        return None
    told = [(grammar[0][0] + "_77", (), 0)]
    for name, parts, _ in grammar:
        if all(part in fruitful or not is_name(part) for part in parts):
            for k, part in enumerate(parts):
                told.append((name + "_77", parts[:k + 1], 0))
                if is_name(part):
                    told.append((name + "_77", parts[:k] + (part + "_77",), 0))
            told.append((name + "_77", (), 0))
            told.append((name, parts, 0))
    return told


def goes_on(grammar, row):
    begun = beginnings(grammar)
    return begun is not None and reads(begun, row)


def apart(row, other):
    """The fewest steps (drop, put, swap) from one row to another."""
    table = list(range(len(other) + 1))
    for i, word in enumerate(row, 1):
        above, table = table, [i]
        for j, aim in enumerate(other, 1):
            table.append(min(above[j] + 1, table[j - 1] + 1, above[j - 1] + (word != aim)))
    return table[-1]


def trees_to_depth(grammar, name, deep, most=12):
    """Some right trees of a name, none deeper than so many levels."""
    if deep == 0:
        return []
    told = []
    for number, rule in enumerate(grammar):
        if rule[0] == name:
            choices = [trees_to_depth(grammar, part, deep - 1, most) if is_name(part) else [part] for part in rule[1]]
            told += [(number, children) for children in itertools.islice(itertools.product(*choices), most)]
    return told


def drawn_machine(dice, words="ab"):
    rooms = dice.randint(1, 4)
    arrows = [(dice.randrange(rooms), dice.choice(words), dice.randrange(rooms)) for _ in range(dice.randint(0, 7))]
    return (rooms, arrows, [dice.randrange(rooms) for _ in range(dice.randint(0, 2))])


@functools.lru_cache(maxsize=None)
def drawn_machines(count=12, seed=5):
    dice = random.Random(seed)
    return [drawn_machine(dice) for _ in range(count)]


def slow_lets(machine, row):
    rooms, arrows, ends = machine
    for rest in itertools.product(range(rooms), repeat=len(row)):
        walk = (0,) + rest
        if walk[-1] in ends and all((walk[k], word, walk[k + 1]) in arrows for k, word in enumerate(row)):
            return True
    return False


def brackets(words):
    """In how many ways so many words are bracketed two by two."""
    counts = [0, 1]
    for size in range(2, words + 1):
        counts.append(sum(counts[k] * counts[size - k] for k in range(1, size)))
    return counts[words]
