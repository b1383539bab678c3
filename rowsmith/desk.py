"""The desk: rows of text are answered with texts."""

from rowsmith.cells import rows_of, thrifty
from rowsmith.classes import cheapest
from rowsmith.counts import how_many
from rowsmith.errors import NoLine, NoText, TooMany
from rowsmith.exchanges import exchanged
from rowsmith.gaps import gap
from rowsmith.rows import behind
from rowsmith.shapes import read_whole_number
from rowsmith.straight import straight
from rowsmith.tabletexts import read_table
from rowsmith.trees import is_name, names_in, worth
from rowsmith.treetexts import read, shown
from rowsmith.webs import open_last

OF_BOTH = ("least", "count", "rows", "better")


def number_of(text):
    """The number that a text writes, or None."""
    try:
        return read_whole_number(text)
    except NoText:
        return None


def worth_of(text):
    """The number, perhaps below 0, that a text writes, or None."""
    if not text.startswith("-"):
        return number_of(text)
    number = number_of(text[1:])
    return None if number is None or number == 0 else -number


def show_row(table, row):
    """The text of a row of the machine."""
    borne = [str(one) for one in row[1]]
    taken = [str(cell) for cell in row[2]]
    return " ".join([table[1][row[0]][0]] + borne + [":"] + taken + ["->", str(row[3])])


def read_borne(text):
    """The name or the number that a text writes, or None."""
    return text if is_name(text) else number_of(text)


def read_row(table, text):
    """The row of the machine that a text writes, or what is none: None, or a tuple with None in it."""
    words = text.split(" ")
    names = [tile[0] for tile in table[1]]
    if words[0] not in names or words.count(":") != 1 or words[-2:-1] != ["->"]:
        return None
    colon = words.index(":")
    borne = [read_borne(word) for word in words[1:colon]]
    taken = [number_of(word) for word in words[colon + 1:-2]]
    return (names.index(words[0]), tuple(borne), tuple(taken), number_of(words[-1]))


def tell_does(table, texts):
    """What stands in the cells behind rows."""
    found = behind(table, [read_row(table, text) for text in texts])
    return "; ".join([" ".join([str(cell), cls, shown(tree)]) for cell, cls, tree in found]) if found else "empty"


def tell_worth(tree, texts):
    """The worth of a tree for worths of its names; NoLine where they are not numbers, or not as many."""
    names = names_in(tree)
    numbers = [worth_of(text) for text in texts]
    if len(numbers) != len(names) or None in numbers:
        raise NoLine("not a number for each name of the tree")
    return str(worth(tree, dict(zip(names, numbers))))


def tell_least(table, tree, cls):
    """Price, need and tiles of a thrifty cover."""
    found = thrifty(table, tree, cls)
    if found is None:
        return "none"
    return " ".join([str(found[0]), str(found[1])] + [table[1][number][0] for number in found[2]])


def tell_rows(table, tree, cls):
    """The rows of a thrifty cover."""
    found = thrifty(table, tree, cls)
    if found is None:
        return "none"
    return "; ".join([show_row(table, row) for row in rows_of(table, tree, found[2])])


def tell_gap(table, cls):
    """Whether each tree has a cover for a class, or a smallest one that has none."""
    found = gap(table, cls)
    if found[0] == "all":
        return "all"
    try:
        return "lacks " + shown(open_last(found[1]))
    except TooMany:
        return "great"


def tell_straight(tree):
    """The straight sum of a tree."""
    terms = [" ".join((str(number),) + names) for names, number in straight(tree)]
    return " + ".join(terms) if terms else "0"


class Desk:
    """A desk with a table and a tree, None where it has none yet."""

    def __init__(self):
        self.table = None
        self.tree = None

    def say(self, row):
        """The answer to a row; NoLine where it is none that can be answered, then as what it asks for refuses."""
        if row.startswith("table\n"):
            self.table = read_table(row[len("table\n"):])
            return "ok"
        if row.startswith("tree "):
            self.tree = read(row[len("tree "):])
            return "ok"
        if row == "does" or row.startswith("does "):
            # Rows are parted otherwise than words are, and may have none.
            return tell_does(self.the_table(), row[len("does "):].split("; ") if row != "does" else [])
        words = row.split(" ")
        if words[0] == "worth":
            return tell_worth(self.the_tree(), words[1:])
        if row == "show":
            return shown(self.the_tree())
        if row == "straight":
            return tell_straight(self.the_tree())
        if len(words) != 2:
            raise NoLine("no row that the desk knows")
        return self.say_of_class(words[0], words[1])

    def say_of_class(self, word, cls):
        """The answer to a row of a word and a class."""
        if word != "gap" and word not in OF_BOTH:
            raise NoLine("no row that the desk knows")
        table = self.the_table()
        if cls not in table[0]:
            raise NoLine("no class of the table")
        if word == "gap":
            return tell_gap(table, cls)
        tree = self.the_tree()
        if word == "least":
            return tell_least(table, tree, cls)
        if word == "count":
            return str(how_many(table, tree, cls))
        return tell_rows(table, tree, cls) if word == "rows" else self.make_better(cls)

    def the_table(self):
        """The table that is kept; NoLine where there is none."""
        if self.table is None:
            raise NoLine("no table yet")
        return self.table

    def the_tree(self):
        """The tree that is kept; NoLine where there is none."""
        if self.tree is None:
            raise NoLine("no tree yet")
        return self.tree

    def make_better(self, cls):
        """Keep the cheapest tree to which exchanges lead, and tell its price and it."""
        found = cheapest(self.table, self.tree, cls)
        if found[0] is None:
            return "none"
        for exchange in found[1]:
            self.tree = exchanged(self.tree, exchange)
        return str(found[0]) + " " + shown(self.tree)
