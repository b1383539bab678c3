"""The labels of a tree's places, and papers that bear out least prices."""

from rowsmith.covers import lies
from rowsmith.shapes import is_whole
from rowsmith.tables import holes
from rowsmith.trees import places, tree_at


def tiles_at(table, tree, place):
    """The tiles that lie at a place, passes too: tuples (class, price, spots), spots as (place of the tree, class)."""
    here = tree_at(tree, place)
    found = []
    for name, cls, pattern, price in table[1]:
        if lies(pattern, here):
            found.append((cls, price, [(place + below, kind) for below, kind in holes(pattern)]))
    return found


def together(price, spots, numbers):
    """A price and the numbers of all spots together; None where one of them has none.

    Numbers are a dict from places to dicts from classes.
    """
    total = price
    for place, cls in spots:
        number = numbers[place].get(cls)
        if number is None:
            return None
        total = total + number
    return total


def fill_label(tiles, place, numbers):
    """Put the least prices of a place into the numbers, those of all places below being there.

    A pass draws on the very prices that are being put in, so rounds go on until nothing is lowered any more.
    """
    here = {}
    numbers[place] = here
    lowered = True
    while lowered:
        lowered = False
        for cls, price, spots in tiles:
            number = together(price, spots, numbers)
            if number is not None and (cls not in here or number < here[cls]):
                here[cls] = number
                lowered = True


def labels(table, tree):
    """For each place of a tree, in their order, a tuple (place, label)."""
    numbers = {}
    for place in reversed(places(tree)):
        fill_label(tiles_at(table, tree, place), place, numbers)
    return [(place, tuple([numbers[place].get(cls) for cls in table[0]])) for place in places(tree)]


def is_entry(thing, classes):
    """Whether a thing has the form of a place with a number or None for each class."""
    if not isinstance(thing, tuple) or len(thing) != 2:
        return False
    if not isinstance(thing[0], tuple) or not isinstance(thing[1], tuple) or len(thing[1]) != len(classes):
        return False
    # A truth in a place would be taken for 0 or 1 further on.
    return all([is_whole(number) for number in thing[0]]) and all([n is None or is_whole(n) for n in thing[1]])


def bears_out(tiles, place, numbers):
    """Whether the numbers of a place hold against each tile that lies there."""
    for cls, price, spots in tiles:
        bound = together(price, spots, numbers)
        number = numbers[place][cls]
        if bound is not None and (number is None or number > bound):
            return False
    return True


def is_paper(table, tree, thing):
    """Whether a thing is a paper that bears out."""
    if not isinstance(thing, list) or not all([is_entry(entry, table[0]) for entry in thing]):
        return False
    numbers = {}
    for place, told in thing:
        numbers[place] = dict(zip(table[0], told))
    if len(numbers) != len(thing) or sorted(numbers) != sorted(places(tree)):
        return False
    return all([bears_out(tiles_at(table, tree, place), place, numbers) for place in numbers])
