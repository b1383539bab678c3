"""Rows of the machine: what they leave in the cells, as trees, as words of tiles and as worths."""

from rowsmith.errors import NoName, NotRight
from rowsmith.shapes import is_whole, reckoned
from rowsmith.tables import holes, leaves
from rowsmith.trees import is_name, is_tree, worth

CELLS = 100


def is_cell(thing):
    """Whether a thing is the number of a cell."""
    return is_whole(thing) and 0 <= thing < CELLS


def fits(leaf, thing):
    """Whether a thing may be borne by a leaf of a pattern."""
    if leaf[0] == "any":
        return is_name(thing)
    return is_whole(thing) and leaf[1] <= thing <= leaf[2]


def is_row(table, thing):
    """Whether a thing is a row, as far as the cells' contents needn't be known."""
    if not isinstance(thing, tuple) or len(thing) != 4:
        return False
    if not is_whole(thing[0]) or not 0 <= thing[0] < len(table[1]) or not is_cell(thing[3]):
        return False
    pattern = table[1][thing[0]][2]
    return are_borne(pattern, thing[1]) and are_taken(pattern, thing[2])


def are_borne(pattern, thing):
    """Whether a thing is a tuple that a pattern may bear."""
    wanted = [leaf for place, leaf in leaves(pattern)]
    if not isinstance(thing, tuple) or len(thing) != len(wanted):
        return False
    return all([fits(leaf, borne) for leaf, borne in zip(wanted, thing)])


def are_taken(pattern, thing):
    """Whether a thing is a tuple of unlike cells, one for each hole of a pattern."""
    if not isinstance(thing, tuple) or len(thing) != len(holes(pattern)):
        return False
    return all([is_cell(cell) for cell in thing]) and len(set(thing)) == len(thing)


def can_take(table, cells, row):
    """Whether the cells that a row takes stand full, in the classes of the holes, and its own one is empty then."""
    for spot, cell in zip(holes(table[1][row[0]][2]), row[2]):
        if cell not in cells or cells[cell][0] != spot[1]:
            return False
    return row[3] not in cells or row[3] in row[2]


def filled(pattern, borne, trees):
    """The tree of a pattern, with what it bears and these trees in the holes' places."""
    # Leaves are met in the order of places, so each takes what is first of those left.
    borne_left = list(reversed(borne))
    trees_left = list(reversed(trees))
    return reckoned(pattern, lambda leaf: filled_leaf(leaf, borne_left, trees_left),
                    lambda word, parts: (word,) + tuple(parts))


def filled_leaf(leaf, borne_left, trees_left):
    """The tree of a pattern without parts; what it uses is taken from the end of the list."""
    if leaf[0] == "at":
        return trees_left.pop()
    return ("name" if leaf[0] == "any" else "num", borne_left.pop())


def do_row(table, cells, number, row):
    """Do a row, of the told number, in the cells; NotRight where it is none or can't be done.

    Cells are a dict from the full cells to tuples (class, tree, word).
    """
    if not is_row(table, row) or not can_take(table, cells, row):
        raise NotRight(number)
    tile = table[1][row[0]]
    taken = [cells.pop(cell) for cell in row[2]]
    tree = filled(tile[2], row[1], [had[1] for had in taken])
    if not is_tree(tree):
        raise NotRight(number)
    word = [row[0]]
    for had in taken:
        word.extend(had[2])
    cells[row[3]] = (tile[1], tree, word)


def cells_behind(table, rows):
    """The cells that are full behind rows, by rising cells: tuples (cell, class, tree, word); NotRight."""
    cells = {}
    for number, row in enumerate(rows):
        do_row(table, cells, number, row)
    return [(cell,) + cells[cell] for cell in sorted(cells)]


def behind(table, rows):
    """What stands behind rows: tuples (cell, class, tree); NotRight with the number of the first wrong row."""
    return [(cell, cls, tree) for cell, cls, tree, word in cells_behind(table, rows)]


def cell_words(table, rows):
    """The words of what stands behind rows: tuples (cell, word); NotRight as in behind."""
    return [(cell, word) for cell, cls, tree, word in cells_behind(table, rows)]


def run(table, rows, worths):
    """The worths of what stands behind rows: tuples (cell, worth); NotRight as in behind, then NoName.

    A name goes by the rows, not by the places of the trees that stand in the end.
    """
    found = cells_behind(table, rows)
    for row in rows:
        for borne in row[1]:
            if isinstance(borne, str) and borne not in worths:
                raise NoName(borne)
    return [(cell, worth(tree, worths)) for cell, cls, tree, word in found]
