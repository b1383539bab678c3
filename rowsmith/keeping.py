"""Fronts of webs: which trees are kept, which are made anew, and the cheapest choice with what bears it out."""

from rowsmith.errors import TooMany
from rowsmith.shapes import Wiring, is_whole, with_passes
from rowsmith.webs import tree_label

MOST_FRONTS = 5000


def total(numbers):
    """The sum of numbers; None where one of them is None."""
    return None if None in numbers else sum(numbers)


def kept_label(wiring, kept):
    """What a tree that is kept in a class has as a piece."""
    prices = [None] * len(wiring.columns)
    prices[wiring.classes.index(kept)] = 0
    return tuple(with_passes(wiring, prices)[:len(wiring.classes)])


def behind_choice(wiring, state, own, kept):
    """The state of a front that goes on with a choice for a tree; own is this tree's label.

    A state is a tuple (cost, labels): what the kept trees cost, and what each tree has as a piece.
    """
    if kept is None:
        return (state[0], state[1] + [own])
    cost = total([state[0], own[wiring.classes.index(kept)]])
    return (cost, state[1] + [kept_label(wiring, kept)])


def state_price(wiring, state, goals):
    """The price of a front that has this state; trees that it doesn't reach have 0 for each class."""
    labels = state[1]
    reached = [labels[number][wiring.classes.index(cls)] for number, cls in goals if number < len(labels)]
    return total([state[0]] + reached)


def front_price(table, web, goals, front):
    """The price of a front, or None."""
    wiring = Wiring(table)
    state = (0, [])
    for tree, kept in zip(web, front):
        state = behind_choice(wiring, state, tree_label(wiring, tree, state[1]), kept)
    return state_price(wiring, state, goals)


class Fronts:
    """The prices of many fronts of one web: a tree's label is reckoned once for all fronts that begin alike."""

    def __init__(self, table, web, goals):
        self.wiring = Wiring(table)
        self.web = web
        self.goals = goals
        self.labels = {}

    def price_of(self, front):
        """The price of a front, or None."""
        state = (0, [])
        for number, kept in enumerate(front):
            ahead = front[:number]
            if ahead not in self.labels:
                self.labels[ahead] = tree_label(self.wiring, self.web[number], state[1])
            state = behind_choice(self.wiring, state, self.labels[ahead], kept)
        return state_price(self.wiring, state, self.goals)


def choices(table):
    """What a front may have for a tree."""
    return (None,) + table[0]


def refuse_many(table, web):
    """TooMany where a web has too many fronts."""
    count = 1
    for tree in web:
        count = count * len(choices(table))
    if count > MOST_FRONTS:
        raise TooMany(f"more than {MOST_FRONTS} fronts")


def keeping(table, web, goals):
    """A front of least price and what bars all others: (price, front, cuts); TooMany where there are too many.

    A longer front is never cheaper than one that it begins with, so nobody need go behind a cut.
    """
    refuse_many(table, web)
    fronts = Fronts(table, web, goals)
    best = (None, None)
    cuts = []
    waiting = [()]
    while waiting:
        front = waiting.pop()
        price = fronts.price_of(front)
        if price is None or (best[0] is not None and price >= best[0]):
            cuts.append(front)
        elif len(front) < len(web):
            waiting.extend([front + (kept,) for kept in choices(table)])
        else:
            if best[1] is not None:
                cuts.append(best[1])
            best = (price, front)
    return (best[0], best[1], cuts)


def is_front(thing, table, web):
    """Whether a thing is a front of a web."""
    if not isinstance(thing, tuple) or len(thing) > len(web):
        return False
    return all([kept in choices(table) for kept in thing])


def whole_fronts(table, web):
    """All fronts as long as a web."""
    found = [()]
    for tree in web:
        longer = []
        for front in found:
            longer.extend([front + (kept,) for kept in choices(table)])
        found = longer
    return found


def how_many_begin(front, cuts):
    """With how many cuts, keys of a dict, a front begins."""
    return sum([1 for length in range(len(front) + 1) if front[:length] in cuts])


def bar_all_others(table, web, front, cuts):
    """Whether each whole front but the told one begins with just one cut, and this one with none."""
    for other in whole_fronts(table, web):
        if how_many_begin(other, cuts) != (0 if other == front else 1):
            return False
    return True


def is_told_front(fronts, price, front, web):
    """Whether a front as long as a web has the told price; None is the front where there is no price."""
    if price is None or front is None:
        return price is None and front is None
    return is_whole(price) and len(front) == len(web) and fronts.price_of(front) == price


def is_dear(price, least):
    """Whether a cut's price bars it."""
    return price is None or (least is not None and price >= least)


def is_keeping(table, web, goals, thing):
    """Whether a thing is right as what keeping tells; TooMany as there."""
    refuse_many(table, web)
    if not isinstance(thing, tuple) or len(thing) != 3 or not isinstance(thing[2], list):
        return False
    if thing[1] is not None and not is_front(thing[1], table, web):
        return False
    if not all([is_front(cut, table, web) for cut in thing[2]]):
        return False
    cuts = dict([(cut, True) for cut in thing[2]])
    if len(cuts) != len(thing[2]) or not bar_all_others(table, web, thing[1], cuts):
        return False
    fronts = Fronts(table, web, goals)
    if not is_told_front(fronts, thing[0], thing[1], web):
        return False
    return all([is_dear(fronts.price_of(cut), thing[0]) for cut in cuts])
