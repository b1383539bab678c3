"""Names, trees, their places and their worths."""

from rowsmith.errors import NoName
from rowsmith.shapes import LETTERS, LONGEST_NAME, TREE_PIECES, TREE_WITHIN, is_number, is_shape, parts_of, places_of
from rowsmith.shapes import reckoned, shape_at, sign_worth


def is_name(thing):
    """Whether a thing is a name."""
    if not isinstance(thing, str) or not 1 <= len(thing) <= LONGEST_NAME:
        return False
    return all([sign in LETTERS for sign in thing])


def is_tree_leaf(thing):
    """Whether a thing is a tree without parts."""
    if not isinstance(thing, tuple) or len(thing) != 2:
        return False
    if thing[0] == "num":
        return is_number(thing[1])
    return thing[0] == "name" and is_name(thing[1])


def is_tree(thing):
    """Whether a thing is a tree."""
    return is_shape(thing, is_tree_leaf, TREE_PIECES, TREE_WITHIN)


def parts(tree):
    """The parts of a tree, a tuple."""
    return parts_of(tree)


def places(tree):
    """The places of a tree: the whole's first, then those of part 0, then those of part 1."""
    return places_of(tree)


def tree_at(tree, place):
    """The tree at a place."""
    return shape_at(tree, place)


def pieces(tree):
    """How many pieces a tree has."""
    return len(places(tree))


def within(tree):
    """How many pieces of a tree are within one another, at most."""
    return 1 + max([len(place) for place in places(tree)])


def names_in(tree):
    """The names of a tree, each once, as they first stand in the order of places."""
    found = []
    for place in places(tree):
        here = tree_at(tree, place)
        if here[0] == "name" and here[1] not in found:
            found.append(here[1])
    return found


def worth(tree, worths):
    """The worth of a tree, its names having the told worths; NoName for the first name that has none."""
    for name in names_in(tree):
        if name not in worths:
            raise NoName(name)
    return reckoned(tree, lambda leaf: leaf_worth(leaf, worths), sign_worth)


def leaf_worth(leaf, worths):
    """The worth of a number, or of a name that has one."""
    return leaf[1] if leaf[0] == "num" else worths[leaf[1]]
