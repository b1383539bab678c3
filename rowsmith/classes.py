"""All trees to which exchanges lead from a tree, and the cheapest of them."""

from rowsmith.errors import TooMany
from rowsmith.exchanges import all_ways, come_by
from rowsmith.shapes import is_shape, is_whole
from rowsmith.trees import is_tree, pieces, within
from rowsmith.webs import web_labels


def led_to(tree, limit=200):
    """All trees to which chains of exchanges lead: tuples (tree, ahead, exchange); TooMany."""
    found = [(tree, None, None)]
    known = {tree: True}
    at = 0
    while at < len(found):
        for exchange, come in all_ways(found[at][0]):
            # What is known is a tree, so only the others are looked at.
            if come not in known and is_tree(come):
                if len(found) == limit:
                    raise TooMany(f"more than {limit} trees")
                known[come] = True
                found.append((come, at, exchange))
        at = at + 1
    return found


def least_prices(table, cls, trees):
    """The least prices of trees for a class, each perhaps None."""
    spot = table[0].index(cls)
    return [label[spot] for label in web_labels(table, tuple(trees))]


def chain_to(trees, number):
    """The chain of exchanges that leads to the tree of a number."""
    found = []
    at = number
    while trees[at][1] is not None:
        found.append(trees[at][2])
        at = trees[at][1]
    return list(reversed(found))


def cheapest(table, tree, cls, limit=200):
    """The least price of all trees to which exchanges lead, a chain that leads to one, and the trees; TooMany."""
    trees = led_to(tree, limit)
    costs = least_prices(table, cls, [entry[0] for entry in trees])
    price = min([cost for cost in costs if cost is not None], default=None)
    if price is None:
        return (None, [], trees)
    return (price, chain_to(trees, costs.index(price)), trees)


def is_first(tree, thing):
    """Whether a thing is what is told of the tree itself."""
    if not isinstance(thing, tuple) or len(thing) != 3 or thing[1] is not None or thing[2] is not None:
        return False
    # Truths are like 0 and 1 to Python, so the form is looked at, too.
    return is_shape(thing[0], is_tree, pieces(tree), within(tree)) and thing[0] == tree


def is_led(trees, number):
    """Whether what is told under a number is a tree to which an exchange leads from an earlier one."""
    thing = trees[number]
    if not isinstance(thing, tuple) or len(thing) != 3 or not is_tree(thing[0]):
        return False
    if not is_whole(thing[1]) or not 0 <= thing[1] < number:
        return False
    return come_by(trees[thing[1]][0], thing[2]) == thing[0]


def are_led_to(tree, thing):
    """Whether a thing is right as what led_to tells, under whatever limit."""
    if not isinstance(thing, list) or not thing or not is_first(tree, thing[0]):
        return False
    for number in range(1, len(thing)):
        if not is_led(thing, number):
            return False
    known = dict([(entry[0], True) for entry in thing])
    return len(known) == len(thing) and all([is_closed(one, known) for one in known])


def is_closed(tree, known):
    """Whether each exchange leads from a tree to a known one."""
    return all([come in known or not is_tree(come) for exchange, come in all_ways(tree)])


def end_of_chain(tree, chain):
    """The tree to which a chain of exchanges leads; None where one of them can't be done."""
    here = tree
    for exchange in chain:
        here = come_by(here, exchange)
        if here is None:
            return None
    return here


def is_cheapest(table, tree, cls, thing):
    """Whether a thing is right as what cheapest tells, under whatever limit."""
    if not isinstance(thing, tuple) or len(thing) != 3 or not isinstance(thing[1], list):
        return False
    if not are_led_to(tree, thing[2]):
        return False
    trees = [entry[0] for entry in thing[2]]
    costs = least_prices(table, cls, trees)
    price = min([cost for cost in costs if cost is not None], default=None)
    if price is None:
        return thing[0] is None and thing[1] == []
    if not is_whole(thing[0]) or thing[0] != price:
        return False
    end = end_of_chain(tree, thing[1])
    return end is not None and costs[trees.index(end)] == price
