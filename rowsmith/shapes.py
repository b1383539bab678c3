"""What trees and patterns have in common: signs with parts, places, how they are written and read, how they meet.

A shape is a tree or a pattern. It has signs with parts, and leaves, which each caller knows by itself.
"""

from rowsmith.errors import NoText

SIGNS = {"turn": 1, "sum": 2, "less": 2, "by": 2}
MIDDLE_TEXTS = {"sum": " + ", "less": " - ", "by": " * "}
MIDDLE_WORDS = {"+": "sum", "-": "less", "*": "by"}
LETTERS = "abcdefghijklmnopqrstuvwxyz"
FIGURES = "0123456789"
LONGEST_NAME = 8
GREATEST = 1000000000000000000
TREE_PIECES = 200
TREE_WITHIN = 40


def is_whole(thing):
    """Whether a thing is a whole number: Python counts True and False as such, the document doesn't."""
    return isinstance(thing, int) and not isinstance(thing, bool)


def is_number(thing):
    """Whether a thing is a number as it may stand in a tree or a pattern."""
    return is_whole(thing) and 0 <= thing <= GREATEST


def is_sign(thing):
    """Whether a thing is a sign with as many parts as it must have, whatever these are."""
    if not isinstance(thing, tuple) or len(thing) == 0 or not isinstance(thing[0], str):
        return False
    return thing[0] in SIGNS and len(thing) == 1 + SIGNS[thing[0]]


def is_shape(thing, is_leaf, most_pieces, most_within):
    """Whether a thing is made of signs and leaves alone, within both bounds.

    The walk ends as soon as a bound is passed, for a thing may hold one tuple in very many places.
    """
    count = 0
    waiting = [(thing, 1)]
    while waiting:
        entry = waiting.pop()
        piece = entry[0]
        depth = entry[1]
        count = count + 1
        if count > most_pieces or depth > most_within:
            return False
        if is_sign(piece):
            waiting.extend([(part, depth + 1) for part in piece[1:]])
        elif not is_leaf(piece):
            return False
    return True


def parts_of(shape):
    """The parts of a shape, a tuple."""
    return shape[1:] if shape[0] in SIGNS else ()


def places_of(shape):
    """The places of a shape, the whole's first, then those of part 0, then those of part 1."""
    found = [()]
    for number, part in enumerate(parts_of(shape)):
        found.extend([(number,) + place for place in places_of(part)])
    return found


def shape_at(shape, place):
    """The shape that stands at a place."""
    here = shape
    for number in place:
        here = parts_of(here)[number]
    return here


def reckoned(shape, of_leaf, of_sign):
    """What a shape comes to: of_leaf tells it of a leaf, of_sign of a sign's word and what its parts come to."""
    if shape[0] not in SIGNS:
        return of_leaf(shape)
    return of_sign(shape[0], [reckoned(part, of_leaf, of_sign) for part in parts_of(shape)])


def reckoned_web(web, of_leaf, of_sign):
    """What each tree of a web comes to, a list; a piece comes to what its tree does."""
    found = []
    for tree in web:
        found.append(reckoned(tree, lambda leaf: found[leaf[1]] if leaf[0] == "piece" else of_leaf(leaf), of_sign))
    return found


def sign_worth(word, worths):
    """The worth of a sign whose parts have these worths."""
    if word == "turn":
        return -worths[0]
    if word == "sum":
        return worths[0] + worths[1]
    if word == "less":
        return worths[0] - worths[1]
    return worths[0] * worths[1]


def lies_on_leaf(pattern, tree):
    """Whether any or from lies on a tree."""
    if pattern[0] == "any":
        return tree[0] == "name"
    return tree[0] == "num" and pattern[1] <= tree[1] <= pattern[2]


def is_pass(tile):
    """Whether a tile of a table is a pass: its whole pattern is a hole."""
    return tile[2][0] == "at"


def columns_of(table):
    """The classes and, behind them, each different piece that is no hole and stands within a pattern."""
    found = list(table[0])
    for tile in table[1]:
        inner = [shape_at(tile[2], place) for place in places_of(tile[2])[1:]]
        for piece in inner:
            if piece[0] != "at" and piece not in found:
                found.append(piece)
    return found


class Wiring:
    """By which rules the prices of a tree for a table's columns come from those of its parts.

    Columns are told by their numbers. A rule of a sign is a tuple (column, price, draws): it gives its column the
    price and, part by part, what the part has for the column on which it draws, if it has something there. A rule
    of leaves is a tuple (column, price, leaf). A lead is a tuple (from, to, price): the least price of passes alone.
    """

    def __init__(self, table):
        self.classes = table[0]
        self.columns = columns_of(table)
        self.leads = pass_leads(table)
        self.leaf_rules = []
        self.sign_rules = {}
        for word in SIGNS:
            self.sign_rules[word] = []
        for tile in table[1]:
            if not is_pass(tile):
                self.wire(tile[1], tile[3], tile[2])
        for part in self.columns[len(self.classes):]:
            self.wire(part, 0, part)

    def wire(self, column, price, pattern):
        """Take in the rule by which a pattern gives a column a price."""
        number = self.columns.index(column)
        if pattern[0] in SIGNS:
            draws = [part[1] if part[0] == "at" else part for part in parts_of(pattern)]
            self.sign_rules[pattern[0]].append((number, price, [self.columns.index(draw) for draw in draws]))
        else:
            self.leaf_rules.append((number, price, pattern))


def lower(numbers, at, number):
    """Put a number into a list where there is None or a greater one."""
    if numbers[at] is None or number < numbers[at]:
        numbers[at] = number


def pass_leads(table):
    """The least prices of passes alone: tuples (from, to, price), for each two unlike classes that they join."""
    classes = table[0]
    steps = [(classes.index(tile[2][1]), classes.index(tile[1]), tile[3]) for tile in table[1] if is_pass(tile)]
    found = []
    for start in range(len(classes)):
        prices = [None] * len(classes)
        prices[start] = 0
        # A way through unlike classes has fewer steps than there are classes.
        for step in range(len(classes) - 1):
            for ahead, to, price in steps:
                if prices[ahead] is not None:
                    lower(prices, to, prices[ahead] + price)
        found.extend([(start, to, price) for to, price in enumerate(prices) if price is not None and to != start])
    return found


def with_passes(wiring, prices):
    """The prices for all columns, those by passes among them, from the prices without passes."""
    found = list(prices)
    for ahead, to, price in wiring.leads:
        if prices[ahead] is not None:
            lower(found, to, prices[ahead] + price)
    return found


def leaf_prices(wiring, leaf):
    """The prices of a number or a name for all columns."""
    found = [None] * len(wiring.columns)
    for column, price, pattern in wiring.leaf_rules:
        if lies_on_leaf(pattern, leaf):
            lower(found, column, price)
    return with_passes(wiring, found)


def sign_prices(wiring, word, parts):
    """The prices of a sign for all columns, from those of its parts."""
    sums = []
    for column, price, draws in wiring.sign_rules[word]:
        drawn = [prices[draw] for prices, draw in zip(parts, draws)]
        sums.append(None if None in drawn else sum(drawn))
    return prices_of_sums(wiring, word, sums)


def prices_of_sums(wiring, word, sums):
    """The prices of a sign for all columns, from what each of its rules draws on all parts together, or None."""
    found = [None] * len(wiring.columns)
    for rule, drawn in zip(wiring.sign_rules[word], sums):
        if drawn is not None:
            lower(found, rule[0], rule[1] + drawn)
    return with_passes(wiring, found)


def show_shape(shape, show_leaf):
    """The text of a shape; show_leaf gives the text of a leaf."""
    if shape[0] not in SIGNS:
        return show_leaf(shape)
    texts = [show_shape(part, show_leaf) for part in parts_of(shape)]
    if shape[0] == "turn":
        return "(- " + texts[0] + ")"
    return "(" + texts[0] + MIDDLE_TEXTS[shape[0]] + texts[1] + ")"


def end_of_name(text, at):
    """Where the longest name that begins at a sign ends; at itself where none begins."""
    end = at
    while end < len(text) and end < at + LONGEST_NAME and text[end] in LETTERS:
        end = end + 1
    return end


def read_number(text, at):
    """The longest number that is written from a sign on, and where it ends; NoText where there is none."""
    number = 0
    end = at
    while end < len(text) and text[end] in FIGURES:
        longer = number * 10 + FIGURES.find(text[end])
        if longer > GREATEST or (number == 0 and end > at):
            break
        number = longer
        end = end + 1
    if end == at:
        raise NoText(at)
    return (number, end)


def read_whole_number(text):
    """The number that a whole text writes; NoText where it writes none."""
    found = read_number(text, 0)
    if found[1] < len(text):
        raise NoText(found[1])
    return found[0]


def read_shape(text, read_leaf):
    """The shape that a text writes; NoText at its first sign that can't stand where it does.

    read_leaf gives the longest leaf from a sign on, and where it ends. The brackets that are not shut yet are kept
    in a list, since they may be deeper than calls should go: [""] while part 0 of two is read, else a word and the
    parts ahead of the last one.
    """
    brackets = []
    shape = None
    at = 0
    while shape is None:
        at = read_openings(text, at, brackets)
        found = read_leaf(text, at)
        found = read_behind(text, found[0], found[1], brackets)
        shape = found[0]
        at = found[1]
    if at < len(text):
        raise NoText(at)
    return shape


def read_openings(text, at, brackets):
    """Take in the brackets that open at a sign; gives back where the leaf behind them begins."""
    here = at
    while text[here:here + 1] == "(":
        if text[here + 1:here + 2] == "-":
            need_sign(text, here + 2, " ")
            brackets.append(["turn"])
            here = here + 3
        else:
            brackets.append([""])
            here = here + 1
    return here


def read_behind(text, shape, at, brackets):
    """Put a shape that ends ahead of a sign into the open brackets, up to the next one that has a part to come.

    Gives back the whole shape, or None where a part is to come, and where the reading goes on.
    """
    whole = shape
    here = at
    while brackets:
        bracket = brackets.pop()
        if bracket[0] == "":
            brackets.append([read_middle(text, here), whole])
            return (None, here + 3)
        need_sign(text, here, ")")
        whole = tuple(bracket + [whole])
        here = here + 1
    return (whole, here)


def read_middle(text, at):
    """The word of the sign between two parts, with a blank on each side."""
    need_sign(text, at, " ")
    sign = text[at + 1:at + 2]
    if sign not in MIDDLE_WORDS:
        raise NoText(at + 1)
    need_sign(text, at + 2, " ")
    return MIDDLE_WORDS[sign]


def need_sign(text, at, sign):
    """NoText where another sign than this one, or none, stands there."""
    if text[at:at + 1] != sign:
        raise NoText(at)
