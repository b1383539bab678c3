"""Exchanges: steps from a tree to one of the same worth."""

from rowsmith.errors import NoExchange
from rowsmith.shapes import is_whole
from rowsmith.trees import is_tree, parts, tree_at

WORDS = ("swap", "right", "left", "open", "shut", "off")


def turned_about(tree):
    """What swap makes of a whole tree, or None."""
    return (tree[0], tree[2], tree[1]) if tree[0] in ("sum", "by") else None


def to_the_right(tree):
    """What right makes of a whole tree, or None."""
    if tree[0] not in ("sum", "by") or tree[1][0] != tree[0]:
        return None
    return (tree[0], tree[1][1], (tree[0], tree[1][2], tree[2]))


def to_the_left(tree):
    """What left makes of a whole tree, or None."""
    if tree[0] not in ("sum", "by") or tree[2][0] != tree[0]:
        return None
    return (tree[0], (tree[0], tree[1], tree[2][1]), tree[2][2])


def opened_less(tree):
    """What open makes of a whole tree, or None."""
    return ("sum", tree[1], ("turn", tree[2])) if tree[0] == "less" else None


def shut_turn(tree):
    """What shut makes of a whole tree, or None."""
    return ("less", tree[1], tree[2][1]) if tree[0] == "sum" and tree[2][0] == "turn" else None


def without_turns(tree):
    """What off makes of a whole tree, or None."""
    return tree[1][1] if tree[0] == "turn" and tree[1][0] == "turn" else None


def changed(tree, word):
    """What the exchange of a word makes of a whole tree, or None where it can't be done."""
    if word == "swap":
        return turned_about(tree)
    if word == "right":
        return to_the_right(tree)
    if word == "left":
        return to_the_left(tree)
    if word == "open":
        return opened_less(tree)
    if word == "shut":
        return shut_turn(tree)
    return without_turns(tree)


def put_at(tree, place, part):
    """A tree with another one at a place."""
    above = [tree]
    for number in place:
        above.append(parts(above[-1])[number])
    found = part
    for number, here in reversed(list(zip(place, above))):
        found = here[:1 + number] + (found,) + here[2 + number:]
    return found


def all_ways(tree):
    """All exchanges that can be done, in their order, and what comes by them, be it a tree or too great for one."""
    found = []
    waiting = [((), tree)]
    while waiting:
        spot = waiting.pop()
        for word in WORDS:
            part = changed(spot[1], word)
            if part is not None:
                found.append(((word, spot[0]), put_at(tree, spot[0], part)))
        below = [(spot[0] + (number,), part) for number, part in enumerate(parts(spot[1]))]
        waiting.extend(list(reversed(below)))
    return found


def exchanges(tree):
    """All exchanges that can be done and by which a tree comes: by places, at one place by their words."""
    return [exchange for exchange, come in all_ways(tree) if is_tree(come)]


def is_place(tree, thing):
    """Whether a thing is a place of a tree."""
    if not isinstance(thing, tuple):
        return False
    here = tree
    for number in thing:
        if not is_whole(number) or not 0 <= number < len(parts(here)):
            return False
        here = parts(here)[number]
    return True


def come_by(tree, thing):
    """The tree that comes by an exchange; None where a thing is none that can be done, or no tree comes by it."""
    if not isinstance(thing, tuple) or len(thing) != 2 or thing[0] not in WORDS or not is_place(tree, thing[1]):
        return None
    part = changed(tree_at(tree, thing[1]), thing[0])
    if part is None:
        return None
    come = put_at(tree, thing[1], part)
    return come if is_tree(come) else None


def exchanged(tree, exchange):
    """The tree that comes by an exchange; NoExchange where it can't be done, or no tree comes by it."""
    come = come_by(tree, exchange)
    if come is None:
        raise NoExchange("no exchange that can be done at this tree")
    return come
