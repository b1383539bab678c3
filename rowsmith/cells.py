"""How many cells covers need, rows that need no more, and covers that are thrifty with cells."""

from rowsmith.chains import as_paper, chosen_cover, is_paper_of, least_of_all
from rowsmith.covers import bears
from rowsmith.shapes import is_whole
from rowsmith.tables import holes
from rowsmith.trees import tree_at


def joined_need(needs):
    """The need of a cover from those of the covers for its holes: these are taken by falling needs."""
    falling = sorted(needs, reverse=True)
    return max([1] + [kept + most for kept, most in enumerate(falling)])


def need(table, cover):
    """How many cells a cover needs."""
    needs = []
    for number in reversed(cover):
        below = [needs.pop() for hole in holes(table[1][number][2])]
        needs.append(joined_need(below))
    return needs.pop()


class Laid:
    """A tile of a cover as it lies on a tree.

    Below are those for its holes, most is how many cells it needs, cell the one in which it leaves what comes.
    """

    def __init__(self, number, tree):
        self.number = number
        self.tree = tree
        self.below = []
        self.most = 1
        self.cell = 0


def laid_cover(table, tree, cover):
    """The tiles of a cover, in its order, as they lie on a tree."""
    found = []
    # What is still to be covered, the next one last: the tree there, and the tile above it.
    waiting = [(tree, None)]
    for number in cover:
        wanted = waiting.pop()
        laid = Laid(number, wanted[0])
        found.append(laid)
        if wanted[1] is not None:
            wanted[1].below.append(laid)
        spots = [(tree_at(laid.tree, place), laid) for place, cls in holes(table[1][number][2])]
        waiting.extend(list(reversed(spots)))
    for laid in reversed(found):
        laid.most = joined_need([below.most for below in laid.below])
    return found


def in_order(first):
    """A laid tile and all below it, as they are done with the fewest cells: holes that need more are done first.

    The list is made from its end, so there a tile stands ahead of those below it, and what needs less comes first.
    """
    found = []
    waiting = [first]
    while waiting:
        laid = waiting.pop()
        found.append(laid)
        waiting.extend(sorted(laid.below, key=lambda below: below.most, reverse=True))
    return list(reversed(found))


def first_empty(full):
    """The lowest cell that is not among the full ones."""
    cell = 0
    while cell in full:
        cell = cell + 1
    return cell


def rows_of(table, tree, cover):
    """Rows of a cover of a tree that need no more cells than it needs, with cells below its need."""
    full = {}
    rows = []
    for laid in in_order(laid_cover(table, tree, cover)[0]):
        taken = tuple([below.cell for below in laid.below])
        for cell in taken:
            full.pop(cell)
        laid.cell = first_empty(full)
        full[laid.cell] = True
        rows.append((laid.number, bears(table[1][laid.number][2], laid.tree), taken, laid.cell))
    return rows


def joined_pair(price, pairs):
    """Price and need of a cover, from its first tile's price and the pairs of the covers for its holes."""
    return (price + sum([cost for cost, most in pairs]), joined_need([most for cost, most in pairs]))


def thrifty(table, tree, cls):
    """Price, need and cover of a tree for a class, of least price and then of least need; None without a cover."""
    found = least_of_all(table, tree, joined_pair)
    pair = found[0][()].get(cls)
    return None if pair is None else pair + (chosen_cover(found[1], cls),)


def thrift_paper(table, tree):
    """The paper of thrift: for each place a tuple with (price, need) or None for each class."""
    return as_paper(table, tree, least_of_all(table, tree, joined_pair)[0])


def is_pair(thing):
    """Whether a thing is a tuple of two whole numbers."""
    return isinstance(thing, tuple) and len(thing) == 2 and is_whole(thing[0]) and is_whole(thing[1])


def is_thrift(table, tree, thing):
    """Whether a thing is a paper of thrift that bears out."""
    return is_paper_of(table, tree, thing, is_pair, joined_pair)
