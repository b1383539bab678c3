"""The columns of a table: what is asked of a tree so that its sets hang on its parts' sets."""

from rowsmith.shapes import columns_of


def columns(table):
    """The classes' names, then each different part of a pattern that is no hole, in the order of tiles and places."""
    return columns_of(table)
