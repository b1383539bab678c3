"""Covers of least price: one of them, and how many there are."""

from rowsmith.chains import cheapest_chains, chosen_cover, laid_tiles, least_of_all, put_in
from rowsmith.labels import joined_price


def least(table, tree, cls):
    """A cover of least price of a tree for a class, or None."""
    choices = least_of_all(table, tree, joined_price)[1]
    return chosen_cover(choices, cls) if cls in choices[()] else None


def first_tiles(tiles, below):
    """For each class the least price of covers that begin with one of these tiles, and how many have it.

    Below is a dict from places to dicts from classes to the least price there and how many covers have it.
    """
    found = {}
    for number, cls, price, spots in tiles:
        had = [below[place].get(kind) for place, kind in spots]
        if None not in had:
            ways = 1
            for cost, count in had:
                ways = ways * count
            put_in(found, cls, joined_price(price, [cost for cost, count in had]), ways)
    return found


def how_many_least(table, tree, cls):
    """How many covers of a tree for a class have the least price."""
    chains = dict([(kind, cheapest_chains(table, kind)) for kind in table[0]])
    laid = laid_tiles(table, tree)
    found = {}
    for place in reversed(list(laid)):
        first = first_tiles(laid[place], found)
        found[place] = {}
        for kind in table[0]:
            for end, chain in chains[kind].items():
                if end in first:
                    put_in(found[place], kind, chain[0] + first[end][0], chain[1] * first[end][1])
    return found[()][cls][1] if cls in found[()] else 0
