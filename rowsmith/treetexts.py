"""How a tree is written and read."""

from rowsmith.errors import NoText
from rowsmith.shapes import end_of_name, read_number, read_shape, show_shape
from rowsmith.trees import is_tree


def show_leaf(leaf):
    """The text of a number or a name."""
    return str(leaf[1])


def shown(tree):
    """The text of a tree."""
    return show_shape(tree, show_leaf)


def read_leaf(text, at):
    """The longest name or number from a sign on, as a tree, and where it ends."""
    end = end_of_name(text, at)
    if end > at:
        return (("name", text[at:end]), end)
    found = read_number(text, at)
    return (("num", found[0]), found[1])


def read(text):
    """The tree that a text writes; NoText with the number of the first wrong sign."""
    tree = read_shape(text, read_leaf)
    # All signs can stand where they do, so only the bounds on pieces can be passed here.
    if not is_tree(tree):
        raise NoText(len(text))
    return tree
