"""The labels of a tree's places, and papers that bear out least prices."""

from rowsmith.chains import as_paper, is_paper_of, least_of_all
from rowsmith.shapes import is_whole


def joined_price(price, prices):
    """The price of a cover, from its first tile's price and those of the covers for its holes."""
    return price + sum(prices)


def labels(table, tree):
    """For each place of a tree, in their order, a tuple (place, label)."""
    return as_paper(table, tree, least_of_all(table, tree, joined_price)[0])


def is_paper(table, tree, thing):
    """Whether a thing is a paper that bears out."""
    return is_paper_of(table, tree, thing, is_whole, joined_price)
