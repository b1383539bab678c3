"""What two tables have to do with one another, by the words of the document; slow."""

import functools

from rowsmith.states import prices
from rowsmith.trees import pieces
from samples import bare_table, leaves_for, plain_state, random_table, with_prices

WORDS = ("turn", "sum", "less", "by")


def bent(chance, some):
    """A table some of whose prices are others."""
    names = chance.sample([tile[0] for tile in some[1]], chance.randrange(1, 4))
    return with_prices(some, **{title: chance.randrange(7) for title in names})


def draw_two(chance):
    """Two tables, often of the same tiles, and a class of each."""
    one = chance.choice([random_table, bare_table])(chance, chance.randrange(4, 14))
    other = bent(chance, one) if chance.randrange(3) else random_table(chance, chance.randrange(6, 10))
    cls = chance.choice(one[0])
    kind = cls if cls in other[0] and chance.randrange(3) else chance.choice(other[0])
    return one, cls, other, kind


@functools.lru_cache(maxsize=20000)
def plain_pair(one, other, tree):
    """Both states of a tree, and both heights."""
    mine, yours = plain_state(one, tree), plain_state(other, tree)
    return (mine[0], yours[0]), (mine[1], yours[1])


def signs_of(word, trees):
    """All signs of a word with parts from a list."""
    if word == "turn":
        return [(word, tree) for tree in trees]
    return [(word, first, second) for first in trees for second in trees]


@functools.lru_cache(maxsize=100)
def plain_pairs(one, other, most):
    """A dict from pairs of states that trees have to a tree; None where there are more than most."""
    found = {}
    new = leaves_for(one, other)
    while new:
        for tree in new:
            found.setdefault(plain_pair(one, other, tree)[0], tree)
        if len(found) > most or max(pieces(tree) for tree in found.values()) > 80:
            return None
        trees = list(found.values())
        new = [tree for word in WORDS for tree in signs_of(word, trees) if plain_pair(one, other, tree)[0] not in found]
        new = new[:1]
    return found


def bears_out(one, cls, other, kind, most, told):
    """Whether pairs with numbers bear out most; None where there are too many to tell.

    Numbers of pairs in which a state is all None are not looked at: what such a height gains isn't told.
    """
    trees = plain_pairs(one, other, 14)
    if trees is None:
        return None
    numbers = {(mine, yours): number for mine, yours, number in told}
    if len(told) != len(numbers) or set(numbers) != set(trees):
        return False
    for (mine, yours), number in numbers.items():
        own, its = mine[one[0].index(cls)], yours[other[0].index(kind)]
        if its is not None and (own is None or number is None or number + own - its > most):
            return False
    for leaf in leaves_for(one, other):
        pair, heights = plain_pair(one, other, leaf)
        if numbers[pair] is not None and numbers[pair] < heights[0] - heights[1]:
            return False
    return all(sign_holds(one, other, numbers, tree)
               for word in WORDS for tree in signs_of(word, list(trees.values())))


def sign_holds(one, other, numbers, tree):
    """Whether the number of a sign's pair holds against those of its parts."""
    pair, heights = plain_pair(one, other, tree)
    if numbers[pair] is None:
        return True
    parts = [plain_pair(one, other, part) for part in tree[1:]]
    below = [numbers[part[0]] for part in parts]
    if None in below:
        return False
    if any(set(state) == {None} for state in pair):
        return True
    gains = [heights[k] - sum(part[1][k] for part in parts) for k in range(2)]
    return numbers[pair] >= sum(below) + gains[0] - gains[1]


def how_often(web, root, number):
    """How often a tree of a web, opened but for one, has this one."""
    def count(tree):
        if tree[0] == "piece":
            return 1 if tree[1] == number else count(web[tree[1]])
        return sum(count(part) for part in tree[1:]) if tree[0] in WORDS else 0
    return count(web[root])


def last_prices(one, cls, other, kind, web):
    """The least prices of a web's last tree for both classes."""
    return prices(one, web)[-1][one[0].index(cls)], prices(other, web)[-1][other[0].index(kind)]


def is_plain_ring(one, cls, other, kind, web, low, high):
    """Whether a ring is right."""
    if not 0 <= low < high < len(web) or None in last_prices(one, cls, other, kind, web):
        return False
    gains = []
    for some in (one, other):
        bottom, top = prices(some, web)[low], prices(some, web)[high]
        least = [min([cost for cost in row if cost is not None], default=0) for row in (bottom, top)]
        states = [tuple(None if cost is None else cost - height for cost in row)
                  for row, height in zip((bottom, top), least)]
        if states[0] != states[1]:
            return False
        gains.append(least[1] - least[0])
    last = len(web) - 1
    return gains[0] > gains[1] and how_often(web, high, low) == 1 and (high == last or how_often(web, last, high) == 1)


def moved(tree, places):
    """A tree of a web with other numbers of pieces."""
    if tree[0] == "piece":
        return ("piece", places.get(tree[1], tree[1]))
    return (tree[0],) + tuple(moved(part, places) for part in tree[1:]) if tree[0] in WORDS else tree


def unrolled(web, low, high, times):
    """The web with the tree between low and high put in so many times more."""
    found = list(web[:high + 1])
    top = high
    for step in range(times):
        places = {low: top}
        for number in range(low + 1, high + 1):
            found.append(moved(web[number], places))
            places[number] = len(found) - 1
        top = len(found) - 1
    places = {high: top}
    for number in range(high + 1, len(web)):
        found.append(moved(web[number], places))
        places[number] = len(found) - 1
    return tuple(found)
