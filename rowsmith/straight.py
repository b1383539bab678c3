"""Trees put straight: as sums of numbers with names multiplied, and worths that tell two trees apart.

Within this file a straight sum is a dict from tuples of names to numbers that are not 0.
"""

from rowsmith.errors import TooMany
from rowsmith.shapes import reckoned
from rowsmith.trees import names_in


def put_term(found, names, number):
    """Add a number with names multiplied to a sum."""
    total = found.pop(names, 0) + number
    if total != 0:
        found[names] = total


def leaf_sum(leaf):
    """The straight sum of a number or a name."""
    found = {}
    if leaf[0] == "num":
        put_term(found, (), leaf[1])
    else:
        put_term(found, (leaf[1],), 1)
    return found


def times(one, number):
    """A straight sum, each number of it multiplied."""
    return dict([(names, had * number) for names, had in one.items()])


def added(one, other):
    """The sum of two straight sums."""
    found = dict(one)
    for names, number in other.items():
        put_term(found, names, number)
    return found


def multiplied(one, other):
    """The product of two straight sums."""
    found = {}
    for names, number in one.items():
        for more, factor in other.items():
            put_term(found, tuple(sorted(names + more)), number * factor)
    return found


def sign_sum(word, parts, limit):
    """The straight sum of a sign, from those of its parts; TooMany where their counts come to more than the limit."""
    counts = [len(part) for part in parts]
    if (counts[0] * counts[1] if word == "by" else sum(counts)) > limit:
        raise TooMany(f"more than {limit} in a straight sum")
    if word == "turn":
        return times(parts[0], -1)
    if word == "by":
        return multiplied(parts[0], parts[1])
    return added(parts[0], times(parts[1], -1) if word == "less" else parts[1])


def straight_sum(tree, limit):
    """The straight sum of a tree; TooMany."""
    return reckoned(tree, leaf_sum, lambda word, parts: sign_sum(word, parts, limit))


def straight(tree, limit=200):
    """A tree put straight: tuples (names, number), sorted by how many names, then names; TooMany."""
    return sorted(straight_sum(tree, limit).items(), key=lambda term: (len(term[0]), term[0]))


def straight_worth(sums, worths):
    """The worth of a straight sum, as straight tells it, for worths of its names."""
    total = 0
    for names, number in sums:
        product = number
        for name in names:
            product = product * worths[name]
        total = total + product
    return total


def with_worth(sums, name, worth):
    """A straight sum in which a name is given a worth."""
    found = {}
    for names, number in sums.items():
        product = number
        for one in names:
            product = product * worth if one == name else product
        put_term(found, tuple([one for one in names if one != name]), product)
    return found


def telling_worth(sums, name):
    """The least worth of a name with which a sum that isn't 0 for all worths still isn't so.

    As a sum of powers of the name it is 0 for no more worths than its highest power, and this is no more than how
    often the name stands in a tree.
    """
    worth = 0
    while not with_worth(sums, name, worth):
        worth = worth + 1
    return worth


def apart(one, other, limit=200):
    """Worths of all names of two trees for which their worths are unlike; None where there are none; TooMany."""
    mine = straight_sum(one, limit)
    left = added(mine, times(straight_sum(other, limit), -1))
    if not left:
        return None
    found = {}
    for name in names_in(("sum", one, other)):
        found[name] = telling_worth(left, name)
        left = with_worth(left, name, found[name])
    return found
