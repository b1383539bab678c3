"""How tiles are chained into covers: which lie where, what is least by them, and papers that bear it out.

What is least may be a price or more than this: joined tells it for a tile, from its price and what its holes have.
"""

from rowsmith.covers import lies
from rowsmith.shapes import is_pass, is_whole
from rowsmith.tables import holes
from rowsmith.trees import places, tree_at


def tiles_at(table, tree, place):
    """The tiles that lie at a place, passes too: tuples (number, class, price, spots).

    Spots are the holes, tuples (place of the tree, class).
    """
    here = tree_at(tree, place)
    found = []
    for number, tile in enumerate(table[1]):
        if lies(tile[2], here):
            spots = [(place + below, cls) for below, cls in holes(tile[2])]
            found.append((number, tile[1], tile[3], spots))
    return found


def laid_tiles(table, tree):
    """For each place of a tree the tiles that lie there, but passes; a dict."""
    found = {}
    for place in places(tree):
        found[place] = [tile for tile in tiles_at(table, tree, place) if not is_pass(table[1][tile[0]])]
    return found


def join_spots(price, spots, values, joined):
    """What a tile comes to by the values of its spots, a dict from places to dicts from classes; None without one."""
    had = [values[place].get(cls) for place, cls in spots]
    return None if None in had else joined(price, had)


def fill_least(tiles, place, values, choices, joined):
    """Put in what is least at a place for each class, and by which tile, those of all places below being there.

    A pass draws on the very values that are being put in, so rounds go on until nothing is lowered any more. Only
    what is truly lower is put in, so passes that cost nothing never lead back to where they come from.
    """
    values[place] = {}
    choices[place] = {}
    lowered = True
    while lowered:
        lowered = False
        for number, cls, price, spots in tiles:
            value = join_spots(price, spots, values, joined)
            if value is not None and (cls not in values[place] or value < values[place][cls]):
                values[place][cls] = value
                choices[place][cls] = (number, spots)
                lowered = True


def least_of_all(table, tree, joined):
    """What is least for each place and class, and the tiles by which it is: two dicts from places to dicts.

    A class without a cover is left out. A choice is a tuple (number of the tile, spots).
    """
    values = {}
    choices = {}
    for place in reversed(places(tree)):
        fill_least(tiles_at(table, tree, place), place, values, choices, joined)
    return (values, choices)


def chosen_cover(choices, cls):
    """The cover of the whole tree for a class to which the choices lead."""
    cover = []
    waiting = [((), cls)]
    while waiting:
        spot = waiting.pop()
        choice = choices[spot[0]][spot[1]]
        cover.append(choice[0])
        waiting.extend(list(reversed(choice[1])))
    return cover


def as_paper(table, tree, values):
    """Values as a paper: for each place, in their order, a tuple with a value or None for each class."""
    return [(place, tuple([values[place].get(cls) for cls in table[0]])) for place in places(tree)]


def is_entry(thing, classes, is_value):
    """Whether a thing has the form of a place with a value or None for each class."""
    if not isinstance(thing, tuple) or len(thing) != 2:
        return False
    if not isinstance(thing[0], tuple) or not isinstance(thing[1], tuple) or len(thing[1]) != len(classes):
        return False
    # A truth in a place would be taken for 0 or 1 further on.
    if not all([is_whole(number) for number in thing[0]]):
        return False
    return all([value is None or is_value(value) for value in thing[1]])


def holds_at(tiles, place, values, joined):
    """Whether the values of a place hold against each tile that lies there."""
    for number, cls, price, spots in tiles:
        bound = join_spots(price, spots, values, joined)
        value = values[place][cls]
        if bound is not None and (value is None or value > bound):
            return False
    return True


def is_paper_of(table, tree, thing, is_value, joined):
    """Whether a thing is a paper of such values, and bears out."""
    if not isinstance(thing, list) or not all([is_entry(entry, table[0], is_value) for entry in thing]):
        return False
    values = {}
    for place, told in thing:
        values[place] = dict(zip(table[0], told))
    if len(values) != len(thing) or sorted(values) != sorted(places(tree)):
        return False
    return all([holds_at(tiles_at(table, tree, place), place, values, joined) for place in values])


def cheapest_steps(table):
    """The cheapest passes for each two classes that one joins: a dict from (class, hole's class) to (price, count)."""
    found = {}
    for tile in table[1]:
        if is_pass(tile):
            put_in(found, (tile[1], tile[2][1]), tile[3], 1)
    return found


def put_in(found, key, price, count):
    """Put in that so many more have a price, where none had less; those that are dearer are forgotten."""
    had = found.get(key)
    if had is None or price < had[0]:
        found[key] = (price, count)
    elif price == had[0]:
        found[key] = (price, had[1] + count)


def cheapest_chains(table, cls):
    """The least price of the chains of passes with which a cover for a class may begin, none among them.

    A dict from the class of the tile behind them to (price, how many chains have it). The classes of a chain and
    that one are all unlike.
    """
    steps = cheapest_steps(table)
    found = {}
    waiting = [((cls,), 0, 1)]
    while waiting:
        chain = waiting.pop()
        classes = chain[0]
        put_in(found, classes[-1], chain[1], chain[2])
        for joint, step in steps.items():
            if joint[0] == classes[-1] and joint[1] not in classes:
                waiting.append((classes + (joint[1],), chain[1] + step[0], chain[2] * step[1]))
    return found
