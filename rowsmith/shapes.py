"""What trees and patterns have in common: signs with parts, places, and how they are written and read.

A shape is a tree or a pattern. It has signs with parts, and leaves, which each caller knows by itself.
"""

from rowsmith.errors import NoText

SIGNS = {"turn": 1, "sum": 2, "less": 2, "by": 2}
MIDDLE_TEXTS = {"sum": " + ", "less": " - ", "by": " * "}
MIDDLE_WORDS = {"+": "sum", "-": "less", "*": "by"}
LETTERS = "abcdefghijklmnopqrstuvwxyz"
FIGURES = "0123456789"
LONGEST_NAME = 8
GREATEST = 1000000000000000000


def is_whole(thing):
    """Whether a thing is a whole number: Python counts True and False as such, the document doesn't."""
    return isinstance(thing, int) and not isinstance(thing, bool)


def is_number(thing):
    """Whether a thing is a number as it may stand in a tree or a pattern."""
    return is_whole(thing) and 0 <= thing <= GREATEST


def is_sign(thing):
    """Whether a thing is a sign with as many parts as it must have, whatever these are."""
    if not isinstance(thing, tuple) or len(thing) == 0 or not isinstance(thing[0], str):
        return False
    return thing[0] in SIGNS and len(thing) == 1 + SIGNS[thing[0]]


def is_shape(thing, is_leaf, most_pieces, most_within):
    """Whether a thing is made of signs and leaves alone, within both bounds.

    The walk ends as soon as a bound is passed, for a thing may hold one tuple in very many places.
    """
    count = 0
    waiting = [(thing, 1)]
    while waiting:
        entry = waiting.pop()
        piece = entry[0]
        depth = entry[1]
        count = count + 1
        if count > most_pieces or depth > most_within:
            return False
        if is_sign(piece):
            waiting.extend([(part, depth + 1) for part in piece[1:]])
        elif not is_leaf(piece):
            return False
    return True


def parts_of(shape):
    """The parts of a shape, a tuple."""
    return shape[1:] if shape[0] in SIGNS else ()


def places_of(shape):
    """The places of a shape, the whole's first, then those of part 0, then those of part 1."""
    found = [()]
    for number, part in enumerate(parts_of(shape)):
        found.extend([(number,) + place for place in places_of(part)])
    return found


def shape_at(shape, place):
    """The shape that stands at a place."""
    here = shape
    for number in place:
        here = parts_of(here)[number]
    return here


def is_pass(tile):
    """Whether a tile of a table is a pass: its whole pattern is a hole."""
    return tile[2][0] == "at"


def show_shape(shape, show_leaf):
    """The text of a shape; show_leaf gives the text of a leaf."""
    if shape[0] not in SIGNS:
        return show_leaf(shape)
    texts = [show_shape(part, show_leaf) for part in parts_of(shape)]
    if shape[0] == "turn":
        return "(- " + texts[0] + ")"
    return "(" + texts[0] + MIDDLE_TEXTS[shape[0]] + texts[1] + ")"


def end_of_name(text, at):
    """Where the longest name that begins at a sign ends; at itself where none begins."""
    end = at
    while end < len(text) and end < at + LONGEST_NAME and text[end] in LETTERS:
        end = end + 1
    return end


def read_number(text, at):
    """The longest number that is written from a sign on, and where it ends; NoText where there is none."""
    number = 0
    end = at
    while end < len(text) and text[end] in FIGURES:
        longer = number * 10 + FIGURES.find(text[end])
        if longer > GREATEST or (number == 0 and end > at):
            break
        number = longer
        end = end + 1
    if end == at:
        raise NoText(at)
    return (number, end)


def read_shape(text, read_leaf):
    """The shape that a text writes; NoText at its first sign that can't stand where it does.

    read_leaf gives the longest leaf from a sign on, and where it ends. The brackets that are not shut yet are kept
    in a list, since they may be deeper than calls should go: [""] while part 0 of two is read, else a word and the
    parts ahead of the last one.
    """
    brackets = []
    shape = None
    at = 0
    while shape is None:
        at = read_openings(text, at, brackets)
        found = read_leaf(text, at)
        found = read_behind(text, found[0], found[1], brackets)
        shape = found[0]
        at = found[1]
    if at < len(text):
        raise NoText(at)
    return shape


def read_openings(text, at, brackets):
    """Take in the brackets that open at a sign; gives back where the leaf behind them begins."""
    here = at
    while text[here:here + 1] == "(":
        if text[here + 1:here + 2] == "-":
            need_sign(text, here + 2, " ")
            brackets.append(["turn"])
            here = here + 3
        else:
            brackets.append([""])
            here = here + 1
    return here


def read_behind(text, shape, at, brackets):
    """Put a shape that ends ahead of a sign into the open brackets, up to the next one that has a part to come.

    Gives back the whole shape, or None where a part is to come, and where the reading goes on.
    """
    whole = shape
    here = at
    while brackets:
        bracket = brackets.pop()
        if bracket[0] == "":
            brackets.append([read_middle(text, here), whole])
            return (None, here + 3)
        need_sign(text, here, ")")
        whole = tuple(bracket + [whole])
        here = here + 1
    return (whole, here)


def read_middle(text, at):
    """The word of the sign between two parts, with a blank on each side."""
    need_sign(text, at, " ")
    sign = text[at + 1:at + 2]
    if sign not in MIDDLE_WORDS:
        raise NoText(at + 1)
    need_sign(text, at + 2, " ")
    return MIDDLE_WORDS[sign]


def need_sign(text, at, sign):
    """NoText where another sign than this one, or none, stands there."""
    if text[at:at + 1] != sign:
        raise NoText(at)
