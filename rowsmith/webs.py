"""Webs: trees that hold earlier trees as pieces, their worths, their sizes and their labels."""

from rowsmith.errors import NoName, TooMany
from rowsmith.shapes import TREE_PIECES, TREE_WITHIN, Wiring, is_shape, is_whole, leaf_prices, reckoned, reckoned_web
from rowsmith.shapes import sign_prices, sign_worth
from rowsmith.trees import is_tree, names_in, worth

MOST_TREES = 3000


def is_piece(thing, number):
    """Whether a thing is a piece that may stand in the tree of this number."""
    if not isinstance(thing, tuple) or len(thing) != 2:
        return False
    return thing[0] == "piece" and is_whole(thing[1]) and 0 <= thing[1] < number


def is_tree_of_web(thing, number):
    """Whether a thing may be the tree of this number in a web."""
    return is_shape(thing, lambda leaf: is_piece(leaf, number) or is_tree(leaf), TREE_PIECES, TREE_WITHIN)


def is_web(thing):
    """Whether a thing is a web."""
    if not isinstance(thing, tuple) or not 1 <= len(thing) <= MOST_TREES:
        return False
    return all([is_tree_of_web(tree, number) for number, tree in enumerate(thing)])


def web_worths(web, worths):
    """The worths of a web's trees; NoName for the first name, tree by tree, that has none."""
    for tree in web:
        for name in names_in(tree):
            if name not in worths:
                raise NoName(name)
    return reckoned_web(web, lambda leaf: worth(leaf, worths), sign_worth)


def opened(web):
    """How many pieces each tree of a web has, opened."""
    return reckoned_web(web, lambda leaf: 1, lambda word, counts: 1 + sum(counts))


def opened_within(web):
    """How many pieces each tree of a web has within one another, at most, opened."""
    return reckoned_web(web, lambda leaf: 1, lambda word, depths: 1 + max(depths))


def open_last(web):
    """The last tree of a web, opened; TooMany where this is more than a tree may have."""
    if opened(web)[-1] > TREE_PIECES or opened_within(web)[-1] > TREE_WITHIN:
        raise TooMany("the last tree opened is more than a tree may have")
    return reckoned_web(web, lambda leaf: leaf, lambda word, parts: (word,) + tuple(parts))[-1]


def known_prices(wiring, leaf, labels):
    """The prices of a tree without parts for all columns.

    Only holes lie on a piece: it has the label of its number, and no price for any part of a pattern.
    """
    if leaf[0] != "piece":
        return leaf_prices(wiring, leaf)
    label = labels[leaf[1]]
    return list(label) + [None] * (len(wiring.columns) - len(label))


def tree_label(wiring, tree, labels):
    """The label of a tree in which each piece has the label of its number."""
    prices = reckoned(tree, lambda leaf: known_prices(wiring, leaf, labels),
                      lambda word, parts: sign_prices(wiring, word, parts))
    return tuple(prices[:len(wiring.classes)])


def web_labels(table, web):
    """The labels of a web's trees."""
    wiring = Wiring(table)
    found = []
    for tree in web:
        found.append(tree_label(wiring, tree, found))
    return found
