"""Tables: classes, tiles and their patterns."""

from rowsmith.shapes import SIGNS, is_number, is_pass, is_shape, is_whole, places_of, shape_at
from rowsmith.trees import is_name

MOST_CLASSES = 6
MOST_TILES = 40
MOST_PIECES = 9
MOST_WITHIN = 5
MOST_HOLES = 4
GREATEST_PRICE = 1000


def are_unlike(names):
    """Whether no name stands twice."""
    return len(set(names)) == len(names)


def are_classes(thing):
    """Whether a thing may be the classes of a table."""
    if not isinstance(thing, tuple) or not 1 <= len(thing) <= MOST_CLASSES:
        return False
    return all([is_name(name) for name in thing]) and are_unlike(thing)


def is_pattern_leaf(thing, classes):
    """Whether a thing is a pattern without parts."""
    if not isinstance(thing, tuple) or len(thing) == 0:
        return False
    if thing[0] == "at":
        return len(thing) == 2 and thing[1] in classes
    if thing[0] == "from":
        return len(thing) == 3 and is_number(thing[1]) and is_number(thing[2]) and thing[1] <= thing[2]
    return thing == ("any",)


def is_pattern(thing, classes):
    """Whether a thing is a pattern for these classes."""
    if not is_shape(thing, lambda leaf: is_pattern_leaf(leaf, classes), MOST_PIECES, MOST_WITHIN):
        return False
    return len(holes(thing)) <= MOST_HOLES


def is_tile(thing, classes):
    """Whether a thing is a tile for these classes."""
    if not isinstance(thing, tuple) or len(thing) != 4:
        return False
    if not is_name(thing[0]) or thing[1] not in classes or not is_pattern(thing[2], classes):
        return False
    if not is_whole(thing[3]) or not 0 <= thing[3] <= GREATEST_PRICE:
        return False
    return not is_pass(thing) or thing[2][1] != thing[1]


def are_tiles(thing, classes):
    """Whether a thing may be the tiles of a table with these classes."""
    if not isinstance(thing, tuple) or not 1 <= len(thing) <= MOST_TILES:
        return False
    return all([is_tile(tile, classes) for tile in thing]) and are_unlike([tile[0] for tile in thing])


def is_table(thing):
    """Whether a thing is a table."""
    if not isinstance(thing, tuple) or len(thing) != 2:
        return False
    return are_classes(thing[0]) and are_tiles(thing[1], thing[0])


def holes(pattern):
    """The holes of a pattern, tuples (place, class), in the order of places."""
    found = [(place, shape_at(pattern, place)) for place in places_of(pattern)]
    return [(place, piece[1]) for place, piece in found if piece[0] == "at"]


def leaves(pattern):
    """The leaves of a pattern that are no holes, tuples (place, leaf), in the order of places."""
    found = [(place, shape_at(pattern, place)) for place in places_of(pattern)]
    return [(place, piece) for place, piece in found if piece[0] != "at" and piece[0] not in SIGNS]
