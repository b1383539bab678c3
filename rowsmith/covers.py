"""Where patterns lie, what they bear, and covers of trees."""

from rowsmith.shapes import is_pass, is_whole, lies_on_leaf, parts_of
from rowsmith.tables import holes, leaves
from rowsmith.trees import parts, tree_at


def lies(pattern, tree):
    """Whether a pattern lies on a tree."""
    if pattern[0] == "at":
        return True
    if pattern[0] in ("any", "from"):
        return lies_on_leaf(pattern, tree)
    if pattern[0] != tree[0]:
        return False
    return all([lies(inner, part) for inner, part in zip(parts_of(pattern), parts(tree))])


def bears(pattern, tree):
    """The names and numbers of a tree on which a pattern's leaves lie, in the order of places."""
    return tuple([tree_at(tree, place)[1] for place, leaf in leaves(pattern)])


def is_cover(table, tree, cls, thing):
    """Whether a thing is a cover of a tree for a class."""
    if not isinstance(thing, list):
        return False
    # What is still to be covered, the next one last: the tree, the class, the classes of the passes ahead.
    waiting = [(tree, cls, ())]
    for number in thing:
        if not waiting or not is_whole(number) or not 0 <= number < len(table[1]):
            return False
        wanted = waiting.pop()
        tile = table[1][number]
        if tile[1] != wanted[1] or tile[1] in wanted[2] or not lies(tile[2], wanted[0]):
            return False
        waiting.extend(list(reversed(wanted_below(tile, wanted))))
    return not waiting


def wanted_below(tile, wanted):
    """What is to be covered behind a tile that is laid on what was wanted, hole by hole."""
    passed = wanted[2] + (tile[1],) if is_pass(tile) else ()
    return [(tree_at(wanted[0], place), cls, passed) for place, cls in holes(tile[2])]


def price(table, cover):
    """The sum of the prices of a list of tiles' numbers."""
    return sum([table[1][number][3] for number in cover])
