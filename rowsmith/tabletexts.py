"""How a table is written and read."""

from rowsmith.errors import NoRow, NoText
from rowsmith.shapes import end_of_name, read_number, read_shape, read_whole_number, show_shape
from rowsmith.tables import are_classes, is_table


def show_leaf(leaf):
    """The text of a pattern without parts."""
    if leaf[0] == "at":
        return "@" + leaf[1]
    if leaf[0] == "any":
        return "?"
    return str(leaf[1]) + ".." + str(leaf[2])


def shown_table(table):
    """The text of a table, a row for the classes and one for each tile."""
    rows = [" ".join(table[0])]
    for name, cls, pattern, price in table[1]:
        rows.append(" ".join([name, cls, str(price), show_shape(pattern, show_leaf)]))
    return "\n".join(rows)


def read_stretch(text, at):
    """LOW..HIGH from a sign on, and where it ends."""
    low = read_number(text, at)
    if text[low[1]:low[1] + 2] != "..":
        raise NoText(low[1])
    high = read_number(text, low[1] + 2)
    return (("from", low[0], high[0]), high[1])


def read_leaf(text, at):
    """The longest hole, any or from that begins at a sign, and where it ends."""
    sign = text[at:at + 1]
    if sign == "?":
        return (("any",), at + 1)
    if sign == "@":
        end = end_of_name(text, at + 1)
        return (("at", text[at + 1:end]), end)
    return read_stretch(text, at)


def read_tile(text, row):
    """The tile that a row writes, whether it suits a table or not; NoRow with the row's number where it is none."""
    fields = text.split(" ", 3)
    if len(fields) < 4:
        raise NoRow(row)
    try:
        price = read_whole_number(fields[2])
        pattern = read_shape(fields[3], read_leaf)
    except NoText:
        raise NoRow(row) from None
    return (fields[0], fields[1], pattern, price)


def read_table(text):
    """The table that a text writes; NoRow with the number of the first wrong row."""
    rows = text.split("\n")
    classes = tuple(rows[0].split(" "))
    if not are_classes(classes):
        raise NoRow(0)
    if len(rows) == 1:
        raise NoRow(1)
    tiles = ()
    for row, line in enumerate(rows[1:], start=1):
        tiles = tiles + (read_tile(line, row),)
        # Each row is looked at with those ahead of it alone, so the first wrong one is the one that is told.
        if not is_table((classes, tiles)):
            raise NoRow(row)
    return (classes, tiles)
